package apply_test

import (
	"math/rand/v2"
	"slices"

	"cabochon/api"
	"cabochon/apply"
	"cabochon/doc"
	"cabochon/lens"
	"cabochon/schema"
	"cabochon/valid"
)

// What comes by chance, the same at each run.

func chance(a, b uint64) *rand.Rand { return rand.New(rand.NewPCG(a, b)) }

var someNames = []string{"a", "b", "c", "d", "r"}

func any1[T any](r *rand.Rand, l []T) T { return l[r.IntN(len(l))] }

// randomType is a right type, at most so deep, of few names and numbers.
func randomType(r *rand.Rand, depth int) api.Type {
	kind := any1(r, []int{api.TRec, api.TRec, api.TRec, api.TDict, api.TDict, api.TList, api.TInt, api.TBool, api.TBytes, api.TEnum})
	if depth == 1 {
		kind = api.TInt + r.IntN(4)
	}
	switch kind {
	case api.TRec:
		return randomRec(r, depth)
	case api.TDict:
		return api.Type{Kind: kind, Lo: r.IntN(2), Hi: 1 + r.IntN(3), Of: []api.Type{randomType(r, depth-1)}}
	case api.TList:
		return api.Type{Kind: kind, Lo: any1(r, []int{0, 1, 1, 1}), Hi: any1(r, []int{1, 1, 1, 2}), Of: []api.Type{randomType(r, 1+r.IntN(depth-1))}}
	case api.TInt:
		return api.Type{Kind: kind, Lo: r.IntN(2), Hi: 3 + r.IntN(3)}
	case api.TBytes:
		return api.Type{Kind: kind, Lo: r.IntN(2), Hi: 1 + r.IntN(2)}
	case api.TEnum:
		return api.Type{Kind: kind, Names: any1(r, [][]string{{"x"}, {"x", "y"}, {"", "x"}})}
	}
	return typ("bool")
}

func randomRec(r *rand.Rand, depth int) api.Type {
	t := api.Type{Kind: api.TRec}
	for _, name := range someNames {
		if depth > 1 && r.IntN(4) > 0 {
			t.Fields = append(t.Fields, api.Field{Name: name, Optional: r.IntN(6) == 0, Type: randomType(r, depth-1)})
		}
	}
	return t
}

// randomDoc is a document of the type.
func randomDoc(r *rand.Rand, t api.Type) api.Doc {
	switch t.Kind {
	case api.TRec:
		d := api.Doc{Kind: api.DRec}
		for _, f := range t.Fields {
			if !f.Optional || r.IntN(2) == 0 {
				d.Keys = append(d.Keys, f.Name)
				d.Kids = append(d.Kids, randomDoc(r, f.Type))
			}
		}
		return d
	case api.TDict, api.TList:
		n := t.Lo + r.IntN(min(t.Hi-t.Lo, 4)+1)
		d := api.Doc{Kind: api.DList}
		for range n {
			d.Kids = append(d.Kids, randomDoc(r, t.Of[0]))
		}
		if t.Kind == api.TDict {
			d.Kind, d.Keys = api.DDict, slices.Sorted(slices.Values(someKeys[r.IntN(3):][:n]))
		}
		return d
	case api.TInt:
		return doc.Int(t.Lo + r.IntN(t.Hi-t.Lo+1))
	case api.TBytes:
		return doc.Bytes("xyz"[:t.Lo+r.IntN(t.Hi-t.Lo+1)])
	case api.TEnum:
		return doc.Bytes(any1(r, t.Names))
	}
	return doc.Bool(r.IntN(2) == 0)
}

var someKeys = []string{"k", "", "a", "k\x00", "\xff", "kk", "b"}

// suited is the kinds of steps that may be done at a field of that type.
func suited(t api.Type) []int {
	switch t.Kind {
	case api.TRec:
		return []int{api.LHoist, api.LHoist, api.LPlunge, api.LPlunge, api.LIn, api.LIn, api.LRename}
	case api.TDict:
		return []int{api.LMap, api.LMap, api.LMap, api.LMap, api.LRename}
	case api.TList:
		return []int{api.LHead, api.LHead, api.LRename}
	case api.TInt:
		return []int{api.LConvert, api.LConvert, api.LWrap, api.LRemove, api.LRename}
	}
	return []int{api.LWrap, api.LRemove, api.LRename, api.LAdd, api.LAdd}
}

// randomStep is a step that may be done at the record t, or nearly.
func randomStep(r *rand.Rand, t api.Type, depth int) api.Lens {
	name := func() string {
		if len(t.Fields) > 0 {
			return any1(r, t.Fields).Name
		}
		return any1(r, someNames)
	}
	s := api.Lens{Kind: api.LAdd, A: name(), B: any1(r, append(someNames, "e", "f")), Type: randomType(r, 1), Swaps: any1(r, [][][2]int{{{1, 2}}, {{2, 3}, {0, 1}}, {{3, 2}, {1, 1}}})}
	var a api.Type
	if i := schema.Field(t, s.A); i >= 0 {
		a = t.Fields[i].Type
		s.Kind = any1(r, suited(a))
	}
	switch s.Kind {
	case api.LAdd:
		s.A = any1(r, append(someNames, "e", "f", "g"))
	case api.LHoist:
		if len(a.Fields) > 0 {
			s.B = any1(r, a.Fields).Name
		}
	case api.LPlunge:
		s.B = name()
	case api.LRemove:
		s.Type = a
	case api.LMap:
		a = a.Of[0]
	}
	s.Doc = randomDoc(r, s.Type)
	if depth > 0 && (s.Kind == api.LIn || s.Kind == api.LMap || r.IntN(10) == 0) {
		s.Subs = randomLens(r, a, 1+r.IntN(3), depth-1)
	}
	return s
}

// randomLens is at most so many steps, all of which may be done, one behind the other.
func randomLens(r *rand.Rand, t api.Type, n, depth int) []api.Lens {
	var l []api.Lens
	for tries := 4 * n; tries > 0 && len(l) < n; tries-- {
		s := randomStep(r, t, depth)
		if made, _, err := lens.Target(t, steps(s)); err == api.OK {
			l = append(l, s)
			t = made
		}
	}
	return l
}

// made is a document of a type, and a lens from that to another one.
type made struct {
	t  api.Type
	l  []api.Lens
	to api.Type
	d  api.Doc
}

// behind is c at its other end, where the document d is.
func (c made) behind(d api.Doc) made { return made{t: c.to, l: c.l, to: c.t, d: d} }

// randoms is so many of them.
func randoms(seed uint64, n int) []made {
	r := chance(seed, 9)
	var all []made
	for len(all) < n {
		c := made{t: randomRec(r, 2+r.IntN(4))}
		c.l = randomLens(r, c.t, r.IntN(8), 3)
		to, _, err := lens.Target(c.t, c.l)
		c.to, c.d = to, randomDoc(r, c.t)
		if err == api.OK && valid.Is(c.t, c.d) {
			all = append(all, c)
		}
	}
	return all
}

// randomRes is what may have been left out of c's document: much of it where something is taken, or left out, or near to it, some of it not of its type, and at times it is not right.
func randomRes(r *rand.Rand, c made, back bool) []api.Res {
	there, _ := apply.Go(c.t, c.l, edge, back, api.State{Doc: c.d})
	var l []api.Res
	for _, x := range slices.Concat(apply.Needs(c.t, c.l, edge, back, c.d), there.Res) {
		switch r.IntN(12) {
		case 0, 1, 2:
			continue
		case 3:
			x.Doc = any1(r, []api.Doc{doc.Int(2), doc.Bool(true), doc.Bytes("x"), val("{a = [1]}")})
		case 4:
			x.Edge += r.IntN(3) - 1
		case 5:
			x.Step = append(x.Step, 0)
		case 6:
			x.Step = x.Step[:len(x.Step)-1]
		case 7:
			x.At = append(x.At, any1(r, someKeys))
		}
		l = apply.Put(l, x)
	}
	if len(l) > 0 && r.IntN(10) == 0 {
		l = append(l, any1(r, l))
	}
	return l
}
