package graph_test

import (
	"math/rand/v2"
	"slices"

	"cabochon/api"
	"cabochon/lens"
	"cabochon/schema"
)

// What comes by chance, the same at each run.

func chance(a, b uint64) *rand.Rand { return rand.New(rand.NewPCG(a, b)) }

func any1[T any](r *rand.Rand, l []T) T { return l[r.IntN(len(l))] }

var someNames = []string{"a", "b", "c", "d"}

// randomRec is a record of few fields, some of which are records again.
func randomRec(r *rand.Rand, depth int) api.Type {
	scalars := []string{"bool", "int (0 .. 9)", "int (0 .. 1)", `enum ("x", "y")`, "bytes (0 .. 3)", "list (1 .. 1) of bool"}
	t := api.Type{Kind: api.TRec}
	for _, name := range someNames {
		if r.IntN(2) == 0 {
			continue
		}
		f := api.Field{Name: name, Optional: r.IntN(8) == 0, Type: typ(any1(r, scalars))}
		if depth > 1 && r.IntN(3) == 0 {
			f.Type = randomRec(r, depth-1)
		}
		t.Fields = append(t.Fields, f)
	}
	return t
}

// randomStep is a step that may be done at the record t, or nearly.
func randomStep(r *rand.Rand, t api.Type) api.Lens {
	s := api.Lens{Kind: any1(r, []int{api.LRename, api.LAdd, api.LRemove, api.LHoist, api.LPlunge, api.LWrap, api.LHead, api.LConvert, api.LIn}), A: any1(r, someNames), B: any1(r, append(someNames, "e", "f"))}
	of, _ := schema.At(t, s.A)
	switch s.Kind {
	case api.LAdd:
		s.A, s.Type = s.B, typ(any1(r, []string{"bool", "int (0 .. 9)"}))
	case api.LRemove:
		s.Type = of
	case api.LConvert:
		s.Swaps = [][2]int{{0, 1}}
	case api.LIn:
		if of.Kind == api.TRec {
			s.Subs = randomLens(r, of, 2)
		}
	}
	s.Doc = schema.Least(s.Type)
	return s
}

// randomLens is at most so many steps, all of which may be done, one behind the other.
func randomLens(r *rand.Rand, t api.Type, n int) []api.Lens {
	var l []api.Lens
	for tries := 6 * n; tries > 0 && len(l) < n; tries-- {
		s := randomStep(r, t)
		if made, _, err := lens.Target(t, []api.Lens{s}); err == api.OK {
			l = append(l, s)
			t = made
		}
	}
	return l
}

// randomRegistry is a right one of so many schemas, of which most are joined: a schema is of a type that a lens makes of another one's, or of a new one.
func randomRegistry(r *rand.Rand, n int) api.Registry {
	var all api.Registry
	for k := range n {
		s := api.Named{Name: name(k), Type: randomRec(r, 3)}
		if k > 0 && r.IntN(5) > 0 {
			from := r.IntN(k)
			l := randomLens(r, all.Schemas[from].Type, r.IntN(4))
			s.Type, _, _ = lens.Target(all.Schemas[from].Type, l)
			j := join(from, k, l...)
			if r.IntN(2) == 0 {
				j = join(k, from, lens.Back(l)...)
			}
			all.Joins = append(all.Joins, j)
		}
		all.Schemas = append(all.Schemas, s)
	}
	return shuffled(r, all)
}

// forest is a right registry of as many schemas as may be, all of one type, of which some are joined.
func forest(r *rand.Rand) api.Registry {
	x := alike(api.MaxSchemas)
	for tries := r.IntN(40); tries > 0; tries-- {
		if more, err := saidJoin(x, name(r.IntN(12)), name(r.IntN(12)), nil); err == api.OK {
			x = more
		}
	}
	return x
}

// shuffled is a registry of the same schemas and joins in another order.
func shuffled(r *rand.Rand, all api.Registry) api.Registry {
	return chosen(all, r.Perm(len(all.Schemas)), r.Perm(len(all.Joins)))
}

// chosen is the registry of these schemas, and of those of these joins that are between two of them.
func chosen(all api.Registry, schemas, joins []int) api.Registry {
	var r api.Registry
	for _, k := range schemas {
		r.Schemas = append(r.Schemas, all.Schemas[k])
	}
	for _, i := range joins {
		j := all.Joins[i]
		j.From, j.To = slices.Index(schemas, j.From), slices.Index(schemas, j.To)
		if j.From >= 0 && j.To >= 0 {
			r.Joins = append(r.Joins, j)
		}
	}
	return r
}

// someOf is a registry of some of the schemas and some of the joins.
func someOf(r *rand.Rand, all api.Registry) api.Registry {
	return chosen(all, r.Perm(len(all.Schemas))[r.IntN(len(all.Schemas)+1):], r.Perm(len(all.Joins))[r.IntN(len(all.Joins)+1):])
}

// randoms is so many registries, all of them right.
func randoms(seed uint64, n int) []api.Registry {
	r := chance(seed, 9)
	var all []api.Registry
	for range n {
		all = append(all, randomRegistry(r, r.IntN(api.MaxSchemas+1)))
	}
	return all
}
