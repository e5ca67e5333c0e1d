package lens_test

import (
	"math/rand/v2"
	"slices"
	"testing"

	"cabochon/api"
	"cabochon/lens"
)

func TestP7_5BackLeadsBack(t *testing.T) {
	often := 0
	for _, c := range append(randoms(6000), held()...) {
		made, _, err := lens.Target(c.t, c.l)
		if err != api.OK {
			continue
		}
		often++
		back := lens.Back(c.l)
		wantMade(t, "back by "+show(back), made, back, c.t)
	}
	if often < 3000 {
		t.Errorf("only %d lenses were taken", often)
	}
}

// At the limits each type on the way back is one of those on the way there.
func TestP7_5BackLeadsBackAtTheLimits(t *testing.T) {
	r := rand.New(rand.NewPCG(5, 6))
	often := 0
	for range 500 {
		x := parted(api.MaxTypes - r.IntN(2))
		l := randomLens(r, x, 1+r.IntN(4), 2)
		if made, _, err := lens.Target(x, l); err == api.OK {
			often++
			wantMade(t, "back by "+show(lens.Back(l)), made, lens.Back(l), x)
		}
	}
	if often < 100 {
		t.Errorf("only %d lenses were taken", often)
	}
}

func TestP7_5BackOfBackIsTheLens(t *testing.T) {
	for _, c := range append(randoms(3000), held()...) {
		back := lens.Back(c.l)
		want(t, "turned round twice", lens.Back(back), c.l)
		if !lens.Same(lens.Back(back), c.l) || lens.Size(back) != lens.Size(c.l) || lens.Depth(back) != lens.Depth(c.l) || lens.Lossless(back) != lens.Lossless(c.l) {
			t.Errorf("%s", show(c.l))
		}
	}
}

// What two lenses make, one behind the other, is what they make as one.
func TestP7_2InTwoParts(t *testing.T) {
	for _, c := range randoms(2000) {
		wanted, place, err := lens.Target(c.t, c.l)
		for cut := range len(c.l) + 1 {
			got, at, first := lens.Target(c.t, c.l[:cut])
			if first == api.OK {
				got, at, first = lens.Target(got, c.l[cut:])
				at += cut
			}
			if at != place || first != err {
				t.Errorf("%s, cut at %d: %v at %d", show(c.l), cut, first, at)
			}
			want(t, "in two parts", got, wanted)
		}
	}
}

// No call panics, each ends, and what they tell of the same holds together, whatever they are given.
func TestW1AnyTypesAndSteps(t *testing.T) {
	r := rand.New(rand.NewPCG(7, 8))
	types := []api.Type{{}, typ("{}"), typ(some), wide(99), wide(0, field("r", chain(99))), {Kind: api.TRec, Fields: make([]api.Field, 3)}, {Kind: api.TDict}, {Kind: api.TList, Lo: 1, Hi: 1}}
	for range 2000 {
		var l []api.Lens
		for range r.IntN(4) {
			s := randomStep(r, typ(some), 2)
			s.Type = any1(r, append(types, s.Type))
			s.Doc = any1(r, []api.Doc{s.Doc, {Kind: api.DRec, Keys: []string{"a"}}, {Kind: api.DList, Kids: make([]api.Doc, 600)}})
			l = append(l, s, in(s.A, s), each(s.B, s))
		}
		for _, x := range types {
			made, at, err := lens.Target(x, l)
			if again, place, other := lens.Target(x, lens.Copy(l)); show(again) != show(made) || place != at || other != err {
				t.Errorf("%s by %s: %v at %d, and then %v at %d", short(show(x)), show(l), err, at, other, place)
			}
			if err == api.OK && at != len(l) || err != api.OK && (at > len(l) || show(made) != "{}") {
				t.Errorf("%s by %s: %s, %v at %d", short(show(x)), show(l), show(made), err, at)
			}
		}
	}
}

func TestW1FarTooMuch(t *testing.T) {
	const much = 1 << 16
	x := typ("{r: {}}")
	deep := steps(nested(much-1, rename("a", "b")))
	if lens.Size(deep) != much || lens.Depth(deep) != much || !lens.Lossless(deep) || !lens.Same(deep, lens.Copy(deep)) {
		t.Error("of a deep one")
	}
	back := lens.Back(deep)
	if lens.Same(back, deep) || !lens.Same(lens.Back(back), deep) {
		t.Error("of a deep one turned round")
	}
	wantNone(t, "a deep one", x, deep, 0, api.ErrFull)

	many := slices.Repeat(steps(rename("a", "b")), 1<<18)
	if lens.Size(many) != 1<<18 || lens.Depth(many) != 1 || !lens.Same(lens.Back(lens.Back(many)), many) {
		t.Error("of a long one")
	}
	wantNone(t, "a long one", x, many, 0, api.ErrFull)
	wantNone(t, "many swaps", typ("{n: int (0 .. 9)}"), steps(convert("n", pairs(1<<18)...)), 0, api.ErrArg)

	shared := steps(rename("a", "b"))
	for range 60 {
		shared = steps(in("r", shared...), in("r", shared...))
	}
	wantNone(t, "one that comes to more steps than there is time for", x, shared, 0, api.ErrFull)
}
