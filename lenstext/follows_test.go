package lenstext_test

import (
	"math/rand/v2"
	"slices"
	"strings"
	"testing"

	"cabochon/api"
	"cabochon/doc"
	"cabochon/lens"
	"cabochon/lenstext"
	"cabochon/schema"
)

// rightScalar is a right type of one part.
func rightScalar(r *rand.Rand) api.Type {
	for {
		if t := randomScalar(r); schema.Right(t) {
			return t
		}
	}
}

// rightType is a right type that is at most so deep.
func rightType(r *rand.Rand, depth int) api.Type {
	if depth == 1 {
		return rightScalar(r)
	}
	switch r.IntN(6) {
	case 0, 1:
		return api.Type{Kind: api.TDict, Hi: 3, Of: []api.Type{rightRec(r, depth-1)}}
	case 2:
		return api.Type{Kind: api.TList, Lo: 1, Hi: 1, Of: []api.Type{rightScalar(r)}}
	case 3:
		return rightScalar(r)
	}
	return rightRec(r, depth)
}

func rightRec(r *rand.Rand, depth int) api.Type {
	t := api.Type{Kind: api.TRec}
	for _, name := range someNames {
		if depth > 1 && r.IntN(4) > 0 {
			t.Fields = append(t.Fields, api.Field{Name: name, Optional: r.IntN(8) == 0, Type: rightType(r, depth-1)})
		}
	}
	return t
}

// tried is a step that may go at the record t, without what does not count of it.
func tried(r *rand.Rand, t api.Type, depth int) api.Lens {
	s := randomStep(r, 0)
	of, _ := schema.At(t, s.A)
	switch {
	case s.Kind == api.LAdd || s.Kind == api.LRemove:
		s.Type = rightScalar(r)
		if s.Kind == api.LRemove && schema.Scalar(of) {
			s.Type = of
		}
		s.Doc = schema.Least(s.Type)
	case of.Kind == api.TInt && r.IntN(2) == 0:
		return convert(s.A, [2]int{of.Lo, of.Hi})
	case of.Kind == api.TRec && r.IntN(3) == 0:
		return hoist(s.A, any1(r, someNames))
	case of.Kind == api.TRec && r.IntN(2) == 0:
		return plunge(s.A, any1(r, someNames))
	case of.Kind == api.TRec && depth > 0:
		return in(s.A, taken(r, of, r.IntN(4), depth-1)...)
	case of.Kind == api.TDict && depth > 0:
		return each(s.A, taken(r, of.Of[0], r.IntN(4), depth-1)...)
	}
	return s
}

// taken is at most so many steps that go, one behind the other, at the record t.
func taken(r *rand.Rand, t api.Type, n, depth int) []api.Lens {
	var l []api.Lens
	for tries := 8 * n; tries > 0 && len(l) < n; tries-- {
		s := tried(r, t, depth)
		if made, _, err := lens.Target(t, steps(s)); err == api.OK {
			t, l = made, append(l, s)
		}
	}
	return l
}

// wantAgain holds Parse to what Print told of l.
func wantAgain(t *testing.T, l []api.Lens) {
	t.Helper()
	if s := lenstext.Print(l); len(s) > api.MaxText {
		wantWrong(t, wrong{s, api.MaxText, api.ErrFull})
	} else {
		wantRead(t, s, l)
	}
}

func TestP9_4WhatTargetTakesIsParsedAsItWas(t *testing.T) {
	r := rand.New(rand.NewPCG(9, 10))
	often, count := 0, map[int]int{}
	for range 6000 {
		x := rightRec(r, 2+r.IntN(3))
		l := taken(r, x, 1+r.IntN(6), 3)
		if _, _, err := lens.Target(x, l); err != api.OK {
			continue
		}
		often++
		wantAgain(t, l)
		wantAgain(t, lens.Back(l))
		for _, s := range l {
			count[s.Kind]++
		}
	}
	for kind := api.LRename; kind <= api.LMap; kind++ {
		if count[kind] < 100 {
			t.Errorf("%d of kind %d", count[kind], kind)
		}
	}
	if often < 5000 {
		t.Errorf("only %d lenses were taken", often)
	}
}

func TestP9_4AnythingIsParsedAsItWas(t *testing.T) {
	for _, l := range append(randoms(3000), kinds()...) {
		wantAgain(t, l)
	}
}

// Lenses at the limits, that Target takes, some of whose texts are longer than a text may be.
func TestP9_4AtTheLimits(t *testing.T) {
	long := names(api.MaxNames)
	for i := range long {
		long[i] += strings.Repeat("\xff", api.MaxBytes-len(long[i]))
	}
	big := enum(long[:15]...)
	var pairs [][2]int
	for i := range api.MaxSwaps {
		pairs = append(pairs, [2]int{api.MinInt + i, api.MaxInt - i})
	}
	deep := api.Type{Kind: api.TRec}
	for range 8 {
		deep = api.Type{Kind: api.TRec, Fields: []api.Field{{Name: "r", Type: deep}}}
	}
	x := api.Type{Kind: api.TRec, Fields: []api.Field{{Name: "n", Type: number(api.MinInt, api.MaxInt)}, {Name: "r", Type: deep}}}
	for _, l := range [][]api.Lens{
		steps(convert("n", pairs...)),
		slices.Repeat(steps(convert("n", pairs[:8]...)), api.MaxSteps),
		slices.Repeat(steps(wrap("n"), head("n")), api.MaxSteps/2),
		nested(7, add("z", yes(), doc.Bool(true))),
		slices.Repeat(nested(8), api.MaxSteps/8),
		steps(add("a", enum(names(api.MaxNames)...), doc.Bytes(names(1)[0]))),
		steps(add("a", big, doc.Bytes(long[3]))),
		steps(add("a", big, doc.Bytes(long[3])), remove("a", big, doc.Bytes(long[4]))),
		steps(add("a", enum(long...), doc.Bytes(long[3]))),
		slices.Repeat(steps(convert("n", pairs...)), api.MaxSteps),
	} {
		if _, _, err := lens.Target(x, l); err != api.OK {
			t.Errorf("%s: %v", short(show(l)), err)
		}
		wantAgain(t, l)
	}
	// Just as long as a text may be, and one byte more.
	for _, room := range []int{0, 1} {
		l := steps(add("a", big, doc.Bytes("")), add("b", enum(""), doc.Bytes("")))
		for i := 0; len(lenstext.Print(l)) < api.MaxText+room; i++ {
			n := min(api.MaxText+room-len(lenstext.Print(l)), 200)
			l[1].Type.Names = append(l[1].Type.Names, string(rune('a'+i))+strings.Repeat("z", max(n-5, 0)))
		}
		if len(lenstext.Print(l)) != api.MaxText+room {
			t.Errorf("%d bytes", len(lenstext.Print(l)))
		}
		wantAgain(t, l)
	}
}

// A lens with a name that is a word is taken, but has no text of the grammar; what does not count of a step is lost.
func TestP9_4WhatIsNotParsedAsItWas(t *testing.T) {
	x := api.Type{Kind: api.TRec, Fields: []api.Field{{Name: "a", Type: yes()}}}
	for _, w := range allWords {
		l := steps(rename("a", w))
		if _, _, err := lens.Target(x, l); err != api.OK {
			t.Errorf("%s: %v", w, err)
		}
		wantWrong(t, wrong{lenstext.Print(l), 12, api.ErrForm}, wrong{lenstext.Print(lens.Back(l)), 7, api.ErrForm})
	}
	full := api.Lens{A: "a", B: "b", Type: yes(), Doc: doc.Bool(true), Swaps: [][2]int{{4, 5}}, Subs: steps(wrap("c"))}
	for kind, wanted := range map[int]api.Lens{
		api.LRename: rename("a", "b"), api.LAdd: add("a", yes(), doc.Bool(true)), api.LRemove: remove("a", yes(), doc.Bool(true)),
		api.LHoist: hoist("a", "b"), api.LPlunge: plunge("a", "b"), api.LWrap: wrap("a"), api.LHead: head("a"),
		api.LConvert: convert("a", [2]int{4, 5}), api.LIn: in("a", wrap("c")), api.LMap: each("a", wrap("c")),
	} {
		full.Kind = kind
		wantRead(t, lenstext.Print(steps(full)), steps(wanted))
	}
}
