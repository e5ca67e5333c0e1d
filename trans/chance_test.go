package trans_test

import (
	"math/rand/v2"
	"slices"

	"cabochon/api"
	"cabochon/apply"
	"cabochon/doc"
	"cabochon/graph"
	"cabochon/lens"
	"cabochon/schema"
	"cabochon/trans"
	"cabochon/valid"
)

// What comes by chance, the same at each run.

func chance(a, b uint64) *rand.Rand { return rand.New(rand.NewPCG(a, b)) }

var (
	someNames = []string{"a", "b", "c", "d", "r"}
	someKeys  = []string{"k", "", "a", "k\x00", "\xff", "kk", "b"}
)

func any1[T any](r *rand.Rand, l []T) T { return l[r.IntN(len(l))] }

// randomType is a right type, at most so deep, of few names and numbers.
func randomType(r *rand.Rand, depth int) api.Type {
	kind := any1(r, []int{api.TRec, api.TRec, api.TRec, api.TDict, api.TDict, api.TList, api.TInt, api.TBool, api.TBytes, api.TEnum})
	if depth == 1 {
		kind = api.TInt + r.IntN(4)
	}
	switch kind {
	case api.TRec:
		return randomRec(r, depth)
	case api.TDict:
		return api.Type{Kind: kind, Lo: r.IntN(2), Hi: 1 + r.IntN(3), Of: []api.Type{randomType(r, depth-1)}}
	case api.TList:
		return api.Type{Kind: kind, Lo: any1(r, []int{0, 1, 1, 1}), Hi: any1(r, []int{1, 1, 1, 2}), Of: []api.Type{randomType(r, 1+r.IntN(depth-1))}}
	case api.TInt:
		return api.Type{Kind: kind, Lo: r.IntN(2), Hi: 3 + r.IntN(3)}
	case api.TBytes:
		return api.Type{Kind: kind, Lo: r.IntN(2), Hi: 1 + r.IntN(2)}
	case api.TEnum:
		return api.Type{Kind: kind, Names: any1(r, [][]string{{"x"}, {"x", "y"}, {"", "x"}})}
	}
	return typ("bool")
}

func randomRec(r *rand.Rand, depth int) api.Type {
	t := api.Type{Kind: api.TRec}
	for _, name := range someNames {
		if depth > 1 && r.IntN(4) > 0 {
			t.Fields = append(t.Fields, api.Field{Name: name, Optional: r.IntN(6) == 0, Type: randomType(r, depth-1)})
		}
	}
	return t
}

// randomDoc is a document of the type.
func randomDoc(r *rand.Rand, t api.Type) api.Doc {
	switch t.Kind {
	case api.TRec:
		d := api.Doc{Kind: api.DRec}
		for _, f := range t.Fields {
			if !f.Optional || r.IntN(2) == 0 {
				d.Keys = append(d.Keys, f.Name)
				d.Kids = append(d.Kids, randomDoc(r, f.Type))
			}
		}
		return d
	case api.TDict, api.TList:
		n := t.Lo + r.IntN(min(t.Hi-t.Lo, 4)+1)
		d := api.Doc{Kind: api.DList}
		for range n {
			d.Kids = append(d.Kids, randomDoc(r, t.Of[0]))
		}
		if t.Kind == api.TDict {
			d.Kind, d.Keys = api.DDict, slices.Sorted(slices.Values(someKeys[r.IntN(3):][:n]))
		}
		return d
	}
	return randomScalar(r, t)
}

func randomScalar(r *rand.Rand, t api.Type) api.Doc {
	switch t.Kind {
	case api.TInt:
		return doc.Int(t.Lo + r.IntN(t.Hi-t.Lo+1))
	case api.TBytes:
		return doc.Bytes("xyz"[:t.Lo+r.IntN(t.Hi-t.Lo+1)])
	case api.TEnum:
		return doc.Bytes(any1(r, t.Names))
	}
	return doc.Bool(r.IntN(2) == 0)
}

// otherwise is the document d of the type t, some of whose scalars are other ones, and nothing else.
func otherwise(r *rand.Rand, t api.Type, d api.Doc) api.Doc {
	if schema.Scalar(t) && r.IntN(2) == 0 {
		return randomScalar(r, t)
	}
	d = doc.Copy(d)
	for i := range d.Kids {
		switch t.Kind {
		case api.TRec:
			d.Kids[i] = otherwise(r, t.Fields[schema.Field(t, d.Keys[i])].Type, d.Kids[i])
		default:
			d.Kids[i] = otherwise(r, t.Of[0], d.Kids[i])
		}
	}
	return d
}

// suited is the kinds of steps that may be done at a field of that type.
func suited(t api.Type) []int {
	switch t.Kind {
	case api.TRec:
		return []int{api.LHoist, api.LHoist, api.LPlunge, api.LPlunge, api.LIn, api.LIn, api.LRename}
	case api.TDict:
		return []int{api.LMap, api.LMap, api.LMap, api.LMap, api.LRename}
	case api.TList:
		return []int{api.LHead, api.LHead, api.LRename}
	case api.TInt:
		return []int{api.LConvert, api.LConvert, api.LWrap, api.LRemove, api.LRename}
	}
	return []int{api.LWrap, api.LRemove, api.LRename, api.LAdd, api.LAdd}
}

// randomStep is a step that may be done at the record t, or nearly.
func randomStep(r *rand.Rand, t api.Type, depth int) api.Lens {
	name := func() string {
		if len(t.Fields) > 0 {
			return any1(r, t.Fields).Name
		}
		return any1(r, someNames)
	}
	s := api.Lens{Kind: api.LAdd, A: name(), B: any1(r, append(someNames, "e", "f")), Type: randomType(r, 1), Swaps: any1(r, [][][2]int{{{1, 2}}, {{2, 3}, {0, 1}}, {{3, 2}, {1, 1}}})}
	var a api.Type
	if i := schema.Field(t, s.A); i >= 0 {
		a = t.Fields[i].Type
		s.Kind = any1(r, suited(a))
	}
	switch s.Kind {
	case api.LAdd:
		s.A = any1(r, append(someNames, "e", "f", "g"))
	case api.LHoist:
		if len(a.Fields) > 0 {
			s.B = any1(r, a.Fields).Name
		}
	case api.LPlunge:
		s.B = name()
	case api.LRemove:
		s.Type = a
	case api.LMap:
		a = a.Of[0]
	}
	s.Doc = randomDoc(r, s.Type)
	if depth > 0 && (s.Kind == api.LIn || s.Kind == api.LMap || r.IntN(10) == 0) {
		s.Subs = randomLens(r, a, 1+r.IntN(3), depth-1)
	}
	return s
}

// randomLens is at most so many steps, all of which may be done, one behind the other.
func randomLens(r *rand.Rand, t api.Type, n, depth int) []api.Lens {
	var l []api.Lens
	for tries := 4 * n; tries > 0 && len(l) < n; tries-- {
		s := randomStep(r, t, depth)
		if made, _, err := lens.Target(t, []api.Lens{s}); err == api.OK {
			l = append(l, s)
			t = made
		}
	}
	return l
}

// randomRegistry is a right one of so many schemas, most of which are joined: a schema is of a type that a lens makes of another one's, or of a new one.
func randomRegistry(r *rand.Rand, n int) api.Registry {
	var all api.Registry
	for k := range n {
		s := api.Named{Name: name(k), Type: randomRec(r, 2+r.IntN(4))}
		if k > 0 && r.IntN(8) > 0 {
			from := r.IntN(k)
			l := randomLens(r, all.Schemas[from].Type, r.IntN(5), 3)
			s.Type, _, _ = lens.Target(all.Schemas[from].Type, l)
			j := join(from, k, l...)
			if r.IntN(2) == 0 {
				j = join(k, from, lens.Back(l)...)
			}
			all.Joins = append(all.Joins, j)
		}
		all.Schemas = append(all.Schemas, s)
	}
	return shuffled(r, all)
}

// shuffled is a registry of the same schemas and joins in another order.
func shuffled(r *rand.Rand, all api.Registry) api.Registry {
	var made api.Registry
	order := r.Perm(len(all.Schemas))
	for _, k := range order {
		made.Schemas = append(made.Schemas, all.Schemas[k])
	}
	for _, i := range r.Perm(len(all.Joins)) {
		j := all.Joins[i]
		made.Joins = append(made.Joins, join(slices.Index(order, j.From), slices.Index(order, j.To), j.Lens...))
	}
	return made
}

// at is a state at a schema of a registry.
type at struct {
	r api.Registry
	k int
	s api.State
}

// randoms is so many whole states, at registries of some schemas.
func randoms(seed uint64, n int) []at {
	r := chance(seed, 9)
	var all []at
	for len(all) < n {
		x := at{r: randomRegistry(r, 1+r.IntN(7))}
		x.k = r.IntN(len(x.r.Schemas))
		if d := randomDoc(r, x.r.Schemas[x.k].Type); valid.Is(x.r.Schemas[x.k].Type, d) {
			x.s, _ = trans.Start(x.r, x.k, d)
			all = append(all, edited(r, x))
		}
	}
	return all
}

// edited is x, once some schemas have written other scalars.
func edited(r *rand.Rand, x at) at {
	for range 3 {
		to := any1(r, graph.Component(x.r, x.k))
		x.s, _ = trans.Go(x.r, x.k, to, x.s)
		x.k = to
		x.s.Doc = otherwise(r, x.r.Schemas[to].Type, x.s.Doc)
	}
	return x
}

// messed is x, but for some of what is left out, or of the document: a state, or nearly, that need not be whole.
func messed(r *rand.Rand, x at) api.State {
	s := api.State{Doc: x.s.Doc}
	for _, x := range x.s.Res {
		switch r.IntN(16) {
		case 0, 1, 2:
			continue
		case 3:
			x.Doc = any1(r, []api.Doc{doc.Int(2), doc.Bool(true), doc.Bytes("x"), val("{a = [1]}")})
		case 4:
			x.Edge += r.IntN(3) - 1
		case 5:
			x.Step = append(slices.Clone(x.Step), 0)
		case 6:
			x.At = append(slices.Clone(x.At), any1(r, someKeys))
		}
		s.Res = apply.Put(s.Res, x)
	}
	switch r.IntN(12) {
	case 0:
		s.Res = append(s.Res, api.Res{Doc: doc.Int(1)})
	case 1:
		s.Doc = any1(r, []api.Doc{{}, val("{}"), val("1")})
	case 2:
		s.Doc = randomDoc(r, x.r.Schemas[x.k].Type)
	}
	return s
}
