package merge_test

import (
	"math/rand/v2"
	"slices"

	"cabochon/api"
	"cabochon/apply"
	"cabochon/doc"
	"cabochon/graph"
	"cabochon/lens"
	"cabochon/merge"
	"cabochon/schema"
	"cabochon/trans"
)

// What comes by chance, the same at each run.

func chance(a, b uint64) *rand.Rand { return rand.New(rand.NewPCG(a, b)) }

var (
	someNames = []string{"a", "b", "c", "d", "r"}
	someKeys  = []string{"k", "", "a", "k\x00", "\xff", "kk", "b"}
)

func any1[T any](r *rand.Rand, l []T) T { return l[r.IntN(len(l))] }

// randomType is a right type, at most so deep, of few names and numbers.
func randomType(r *rand.Rand, depth int) api.Type {
	kind := any1(r, []int{api.TRec, api.TRec, api.TRec, api.TDict, api.TDict, api.TList, api.TInt, api.TBool, api.TBytes, api.TEnum})
	if depth == 1 {
		kind = any1(r, []int{api.TInt, api.TInt, api.TInt, api.TBytes, api.TEnum, api.TBool}) // two sides do not clash at a bool that base has
	}
	switch kind {
	case api.TRec:
		return randomRec(r, depth)
	case api.TDict:
		return api.Type{Kind: kind, Lo: r.IntN(2), Hi: 1 + r.IntN(3), Of: []api.Type{randomType(r, depth-1)}}
	case api.TList:
		return api.Type{Kind: kind, Lo: any1(r, []int{0, 1, 1, 1}), Hi: any1(r, []int{1, 1, 1, 2}), Of: []api.Type{randomType(r, 1+r.IntN(depth-1))}}
	case api.TInt:
		return api.Type{Kind: kind, Lo: r.IntN(2), Hi: 3 + r.IntN(6)}
	case api.TBytes:
		return api.Type{Kind: kind, Lo: r.IntN(2), Hi: 2 + r.IntN(2)}
	case api.TEnum:
		return api.Type{Kind: kind, Names: any1(r, [][]string{{"x"}, {"", "x"}, {"w", "x", "y", "z"}})}
	}
	return typ("bool")
}

func randomRec(r *rand.Rand, depth int) api.Type {
	t := api.Type{Kind: api.TRec}
	for _, name := range someNames {
		if depth > 1 && r.IntN(4) > 0 {
			t.Fields = append(t.Fields, api.Field{Name: name, Optional: r.IntN(6) == 0, Type: randomType(r, depth-1)})
		}
	}
	return t
}

// randomDoc is a document of the type.
func randomDoc(r *rand.Rand, t api.Type) api.Doc {
	switch t.Kind {
	case api.TRec:
		d := api.Doc{Kind: api.DRec}
		for _, f := range t.Fields {
			if !f.Optional || r.IntN(2) == 0 {
				d.Keys = append(d.Keys, f.Name)
				d.Kids = append(d.Kids, randomDoc(r, f.Type))
			}
		}
		return d
	case api.TDict, api.TList:
		n := t.Lo + r.IntN(min(t.Hi-t.Lo, 4)+1)
		d := api.Doc{Kind: api.DList}
		for range n {
			d.Kids = append(d.Kids, randomDoc(r, t.Of[0]))
		}
		if t.Kind == api.TDict {
			d.Kind, d.Keys = api.DDict, slices.Sorted(slices.Values(someKeys[r.IntN(3):][:n]))
		}
		return d
	}
	return randomScalar(r, t)
}

func randomScalar(r *rand.Rand, t api.Type) api.Doc {
	switch t.Kind {
	case api.TInt:
		return doc.Int(t.Lo + r.IntN(t.Hi-t.Lo+1))
	case api.TBytes:
		return doc.Bytes(any1(r, []string{"xyz", "yyy", "\x00\xffz"})[:t.Lo+r.IntN(t.Hi-t.Lo+1)])
	case api.TEnum:
		return doc.Bytes(any1(r, t.Names))
	}
	return doc.Bool(r.IntN(2) == 0)
}

// changed is the document d of the type t, of which each part may be another one, with a chance of one of so many, or, with a lesser one, not be there, or be there now.
func changed(r *rand.Rand, t api.Type, d api.Doc, of int) api.Doc {
	luck := r.IntN(of) == 0
	if schema.Scalar(t) || luck && t.Kind == api.TList {
		for tries := 3; luck && tries > 0; tries-- {
			if x := randomDoc(r, t); show(x) != show(d) {
				return x
			}
		}
		return d
	}
	made := api.Doc{Kind: d.Kind}
	for i, key := range keysOf(t, d) {
		of1, optional := partOf(t, key)
		had := slices.Index(d.Keys, key)
		if d.Kind == api.DList {
			had = i
		}
		if optional && r.IntN(3*of) == 0 {
			if had >= 0 {
				continue
			}
			made.Keys, made.Kids = append(made.Keys, key), append(made.Kids, randomDoc(r, of1))
		} else if had >= 0 {
			made.Keys, made.Kids = append(made.Keys, key), append(made.Kids, changed(r, of1, d.Kids[had], of))
		}
	}
	if d.Kind == api.DList {
		made.Keys = nil
	}
	return made
}

// keysOf is the keys that a document of the type t, as d is, may have, and, of a list, one for each kid.
func keysOf(t api.Type, d api.Doc) []string {
	switch t.Kind {
	case api.TRec:
		var l []string
		for _, f := range t.Fields {
			l = append(l, f.Name)
		}
		return l
	case api.TDict:
		l := append(slices.Clone(someKeys), d.Keys...)
		slices.Sort(l)
		return slices.Compact(l)
	}
	return make([]string, len(d.Kids))
}

// partOf is the type of what stands at the key, and whether it need not be there.
func partOf(t api.Type, key string) (api.Type, bool) {
	if t.Kind == api.TRec {
		f := t.Fields[schema.Field(t, key)]
		return f.Type, f.Optional
	}
	return t.Of[0], t.Kind == api.TDict
}

// suited is the kinds of steps that may be done at a field of that type.
func suited(t api.Type) []int {
	switch t.Kind {
	case api.TRec:
		return []int{api.LHoist, api.LHoist, api.LPlunge, api.LPlunge, api.LIn, api.LIn, api.LRename}
	case api.TDict:
		return []int{api.LMap, api.LMap, api.LMap, api.LMap, api.LRename}
	case api.TList:
		return []int{api.LHead, api.LHead, api.LRename}
	case api.TInt:
		return []int{api.LConvert, api.LWrap, api.LRemove, api.LRemove, api.LRename, api.LAdd}
	}
	return []int{api.LWrap, api.LRemove, api.LRemove, api.LRename, api.LAdd, api.LAdd}
}

// randomStep is a step that may be done at the record t, or nearly.
func randomStep(r *rand.Rand, t api.Type, depth int) api.Lens {
	name := func() string {
		if len(t.Fields) > 0 {
			return any1(r, t.Fields).Name
		}
		return any1(r, someNames)
	}
	s := api.Lens{Kind: api.LAdd, A: name(), B: any1(r, append(someNames, "e", "f")), Type: randomType(r, 1), Swaps: any1(r, [][][2]int{{{1, 2}}, {{2, 3}, {0, 1}}, {{3, 2}, {1, 1}}})}
	var a api.Type
	if i := schema.Field(t, s.A); i >= 0 {
		a = t.Fields[i].Type
		s.Kind = any1(r, suited(a))
	}
	switch s.Kind {
	case api.LAdd:
		s.A = any1(r, append(someNames, "e", "f", "g"))
	case api.LHoist:
		if len(a.Fields) > 0 {
			s.B = any1(r, a.Fields).Name
		}
	case api.LPlunge:
		s.B = name()
	case api.LRemove:
		s.Type = a
	case api.LMap:
		a = a.Of[0]
	}
	s.Doc = randomDoc(r, s.Type)
	if depth > 0 && (s.Kind == api.LIn || s.Kind == api.LMap || r.IntN(10) == 0) {
		s.Subs = randomLens(r, a, 1+r.IntN(3), depth-1)
	}
	return s
}

// randomLens is at most so many steps, all of which may be done, one behind the other.
func randomLens(r *rand.Rand, t api.Type, n, depth int) []api.Lens {
	var l []api.Lens
	for tries := 4 * n; tries > 0 && len(l) < n; tries-- {
		s := randomStep(r, t, depth)
		if made, _, err := lens.Target(t, []api.Lens{s}); err == api.OK {
			l = append(l, s)
			t = made
		}
	}
	return l
}

// randomRegistry is a right one of so many schemas, most of which are joined: a schema is of a type that a lens makes of another one's, or of a new one.
func randomRegistry(r *rand.Rand, n int) api.Registry {
	var all api.Registry
	for k := range n {
		s := api.Named{Name: name(k), Type: randomRec(r, 2+r.IntN(4))}
		if k > 0 && r.IntN(8) > 0 {
			from := r.IntN(k)
			l := randomLens(r, all.Schemas[from].Type, r.IntN(5), 3)
			s.Type, _, _ = lens.Target(all.Schemas[from].Type, l)
			j := join(from, k, l...)
			if r.IntN(2) == 0 {
				j = join(k, from, lens.Back(l)...)
			}
			all.Joins = append(all.Joins, j)
		}
		all.Schemas = append(all.Schemas, s)
	}
	return shuffled(r, all)
}

// shuffled is a registry of the same schemas and joins in another order.
func shuffled(r *rand.Rand, all api.Registry) api.Registry {
	var made api.Registry
	order := r.Perm(len(all.Schemas))
	for _, k := range order {
		made.Schemas = append(made.Schemas, all.Schemas[k])
	}
	for _, i := range r.Perm(len(all.Joins)) {
		j := all.Joins[i]
		made.Joins = append(made.Joins, join(slices.Index(order, j.From), slices.Index(order, j.To), j.Lens...))
	}
	return made
}

// trio is three whole states at a schema of a registry.
type trio struct {
	r api.Registry
	k int
	s [3]api.State
}

func (x trio) three() api.Outcome { return merge.Three(x.r, x.k, x.s[0], x.s[1], x.s[2]) }

// trios is so many of them, at registries of some schemas: left and right have come from base, by what some schemas have written. Of most of them something is left out.
func trios(seed uint64, n int) []trio {
	r := chance(seed, 9)
	var all []trio
	for len(all) < n {
		x := trio{r: randomRegistry(r, 1+r.IntN(6))}
		x.k = r.IntN(len(x.r.Schemas))
		d := randomDoc(r, x.r.Schemas[x.k].Type)
		s, err := trans.Start(x.r, x.k, d)
		if err != api.OK || len(s.Res) == 0 && r.IntN(4) > 0 {
			continue
		}
		of := any1(r, []int{2, 3, 4, 8})
		x.s[0] = edited(r, x, s, 3)
		x.s[1] = edited(r, x, x.s[0], of)
		x.s[2] = edited(r, x, x.s[r.IntN(8)/7], of)
		all = append(all, x)
	}
	return all
}

// edited is s, a whole state at x's schema, once schemas have written something: what is left out is kept where it is needed still.
func edited(r *rand.Rand, x trio, s api.State, of int) api.State {
	for _, to := range graph.Component(x.r, x.k) {
		there, _ := trans.Go(x.r, x.k, to, s)
		d := changed(r, x.r.Schemas[to].Type, there.Doc, of)
		made, err := trans.Start(x.r, to, d)
		if err != api.OK {
			continue // too many entries, or too few
		}
		for i, need := range made.Res {
			if j := apply.Find(there.Res, need.Edge, need.Step, need.At); j >= 0 {
				made.Res[i] = there.Res[j]
			}
		}
		s, _ = trans.Go(x.r, to, x.k, made)
	}
	return s
}

// messed is s, but for some of what is left out, or of the document: a state, or nearly, that need not be whole.
func messed(r *rand.Rand, t api.Type, s api.State) api.State {
	made := api.State{Doc: s.Doc}
	for _, x := range s.Res {
		switch r.IntN(16) {
		case 0:
			continue
		case 1:
			x.Doc = any1(r, []api.Doc{doc.Int(2), doc.Bool(true), doc.Bytes("x"), val("{a = [1]}")})
		case 2:
			x.Edge += r.IntN(3) - 1
		case 3:
			x.Step = append(slices.Clone(x.Step), 0)
		case 4:
			x.At = append(slices.Clone(x.At), any1(r, someKeys))
		}
		made.Res = apply.Put(made.Res, x)
	}
	switch r.IntN(14) {
	case 0:
		made.Res = append(made.Res, api.Res{Doc: doc.Int(1)})
	case 1:
		made.Doc = any1(r, []api.Doc{{}, val("{}"), val("1"), val("{a = {b = 1}}"), val(`<"a": 2>`), val("{a = {c = 2}}")})
	case 2:
		made.Doc = randomDoc(r, t)
	case 3:
		made.Doc = changed(r, t, s.Doc, 2)
	}
	return made
}
