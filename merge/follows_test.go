package merge_test

import (
	"slices"
	"testing"

	"cabochon/api"
	"cabochon/doc"
	"cabochon/graph"
	"cabochon/merge"
	"cabochon/trans"
)

// wantElsewhere is whether what x comes to at its own schema is what it comes to at the schema to.
func wantElsewhere(t *testing.T, x trio, to int) api.Outcome {
	t.Helper()
	here := x.three()
	there, err := merge.Across(x.r, to, [3]int{x.k, x.k, x.k}, x.s)
	if err != api.OK || here.Kind != there.Kind || len(here.Clashes) != len(there.Clashes) {
		t.Errorf("%s at %d, %s, %v at %d: %s of %s", short(show(here)), x.k, short(show(there)), err, to, short(show(x.s)), short(show(x.r)))
	}
	if here.Kind == api.Merged {
		wantBoth(t, "what is merged goes there", there.State, api.OK)(trans.Go(x.r, x.k, to, here.State))
	}
	return there
}

func TestP12_5AtEachSchema(t *testing.T) {
	t.Parallel()
	came := map[int]int{}
	out, lefts := 0, 0
	for _, x := range trios(41, 400) {
		for _, s := range x.s {
			if !trans.Whole(x.r, x.k, s) {
				t.Fatalf("not whole: %s at %d of %s", show(s), x.k, show(x.r))
			}
		}
		for _, to := range graph.Component(x.r, x.k) {
			o := wantElsewhere(t, x, to)
			lefts += len(o.State.Res)
			for _, c := range o.Clashes {
				if c.Out {
					out++
				}
			}
			if to != x.k {
				came[o.Kind]++
			}
			if o.Kind == api.Merged && !trans.Whole(x.r, to, o.State) {
				t.Errorf("not whole: %s", show(o.State))
			}
		}
	}
	for kind, n := range map[int]int{api.Merged: 200, api.Conflicts: 200, api.Invalid: 20} {
		if came[kind] < n {
			t.Errorf("kind %d came up %d times", kind, came[kind])
		}
	}
	if out < 100 || lefts < 300 {
		t.Errorf("%d clashes of what is left out, %d left out", out, lefts)
	}
}

// At the limits, too.
func TestP12_5AtTheLimits(t *testing.T) {
	t.Parallel()
	start := func(from, to int) api.State {
		s, err := trans.Start(pile(), 0, entries(from, to, "{}").Doc)
		if err != api.OK {
			t.Fatal(err)
		}
		return s
	}
	for _, n := range []int{127, 128, 129} {
		for to := range 3 {
			x := trio{pile(), 0, [3]api.State{start(60, 70), start(0, 70), start(60, min(n, 128))}}
			if n > 128 {
				x.s[1], x.s[2] = start(0, 68), start(1, 129)
				x.s[0] = start(1, 60)
			}
			o := wantElsewhere(t, x, to)
			if is := n <= 128; is != (o.Kind == api.Merged) {
				t.Errorf("%d entries at %d: kind %d", n, to, o.Kind)
			}
		}
	}
}

// A base, and sides, of unlike schemas.
func TestP12_5OfUnlikeSchemas(t *testing.T) {
	t.Parallel()
	r := chance(43, 44)
	for _, x := range trios(45, 150) {
		all := graph.Component(x.r, x.k)
		from, s := [3]int{}, [3]api.State{}
		for i := range s {
			from[i] = any1(r, all)
			s[i], _ = trans.Go(x.r, x.k, from[i], x.s[i])
		}
		wantBoth(t, "from anywhere", x.three(), api.OK)(merge.Across(x.r, x.k, from, s))
	}
}

func TestP12_6WhoSwapsSides(t *testing.T) {
	t.Parallel()
	r := chance(51, 52)
	for _, x := range trios(53, 150) {
		for range 2 {
			want(t, "swapped", merge.Three(x.r, x.k, x.s[0], x.s[2], x.s[1]), x.three())
			var takes, turned []int
			for range x.three().Clashes {
				n := r.IntN(4)
				takes, turned = append(takes, n), append(turned, []int{0, 2, 1, 3}[n])
			}
			want(t, "swapped, and taken", merge.Pick(x.r, x.k, x.s[0], x.s[2], x.s[1], turned), merge.Pick(x.r, x.k, x.s[0], x.s[1], x.s[2], takes))
			x.s[r.IntN(3)] = messed(r, x.r.Schemas[x.k].Type, x.s[r.IntN(3)])
		}
	}
}

func TestP12_6WithASideAlikeBase(t *testing.T) {
	t.Parallel()
	for _, x := range trios(55, 40) {
		for _, s := range x.s {
			for _, other := range x.s {
				wanted := api.Outcome{Kind: api.Merged, State: other}
				want(t, "left is base", merge.Three(x.r, x.k, s, s, other), wanted)
				want(t, "right is base", merge.Three(x.r, x.k, s, other, s), wanted)
				want(t, "both are alike", merge.Three(x.r, x.k, s, other, other), wanted)
				for _, to := range graph.Component(x.r, x.k) {
					there, err := trans.Go(x.r, x.k, to, other)
					wantBoth(t, "elsewhere", api.Outcome{Kind: api.Merged, State: there}, err)(merge.Across(x.r, to, [3]int{x.k, x.k, x.k}, [3]api.State{s, s, other}))
				}
			}
		}
	}
}

// No call panics, each ends, and tells the same again, whatever it is given.
func TestW1AnyArguments(t *testing.T) {
	t.Parallel()
	r := chance(57, 58)
	all := trios(59, 200)
	numbers := []int{-1, 0, 1, 2, 5, 12, 13, api.MinInt, api.MaxInt}
	docs := []api.Doc{{}, val("{}"), val("[1]"), {Kind: api.DRec, Keys: []string{"a", "b"}}, {Kind: api.DRec, Kids: make([]api.Doc, 2)}, {Kind: api.DList, Kids: make([]api.Doc, 600)}, {Kind: -5, Num: 7}}
	rows := [][]api.Res{nil, make([]api.Res, 3), many(1, 300, "1"), {left(0, nil, "1"), left(0, nil, "1")}, {left(0, place(0), "true")}, {{Doc: docs[3]}}}
	for range 2000 {
		x, other := any1(r, all), any1(r, all)
		if r.IntN(4) == 0 {
			x.r = any1(r, wrong())
		}
		for i := range x.s {
			if r.IntN(3) == 0 {
				x.s[i] = api.State{Doc: any1(r, append(docs, x.s[i].Doc, x.s[i].Doc, other.s[i].Doc)), Res: any1(r, append(rows, x.s[i].Res, x.s[i].Res, other.s[i].Res))}
			}
		}
		k, to, from := any1(r, append(numbers, x.k, x.k, x.k)), any1(r, numbers), [3]int{x.k, any1(r, append(numbers, x.k, x.k)), x.k}
		takes := []int{any1(r, numbers), any1(r, numbers), any1(r, numbers)}
		ask := func() string {
			one := merge.Three(x.r, k, x.s[0], x.s[1], x.s[2])
			two := merge.Pick(x.r, k, x.s[0], x.s[1], x.s[2], takes)
			three, err := merge.Across(x.r, to, from, x.s)
			if err != api.OK && show(three) != show(api.Outcome{}) {
				t.Errorf("%v, and %s", err, short(show(three)))
			}
			for _, o := range []api.Outcome{one, two, three} {
				bare := o.Kind != api.Merged && show(o.State) != show(api.State{}) || (o.Kind == api.Conflicts) != (len(o.Clashes) > 0)
				if bare || o.Kind < api.Merged && err == api.OK || o.Kind > api.Invalid {
					t.Errorf("more, or less, than there may be: %s", short(show(o)))
				}
			}
			return show([]any{one, two, three, err, merge.Same(one, two), merge.Same(two, three)})
		}
		if one, two := ask(), ask(); one != two {
			t.Errorf("%s, and then %s", short(one), short(two))
		}
	}
}

func TestW1FarTooMuch(t *testing.T) {
	const much = 1 << 16
	shared, deep := doc.Int(1), doc.Int(1)
	for range 60 {
		shared = api.Doc{Kind: api.DList, Kids: []api.Doc{shared, shared}}
	}
	for range much {
		deep = api.Doc{Kind: api.DList, Kids: []api.Doc{deep}}
	}
	most := make([]api.Res, 1<<18)
	for i := range most {
		most[i] = api.Res{Edge: i, Doc: val("true")}
	}
	good := state("{a = 3}")
	within := func(d api.Doc) api.Doc {
		return api.Doc{Kind: api.DRec, Keys: []string{"a"}, Kids: []api.Doc{d}}
	}
	for side := range 3 {
		for _, bad := range []api.State{{Doc: shared}, {Doc: deep}, {Doc: within(shared)}, {Doc: within(deep)}, {Doc: good.Doc, Res: most}, {Doc: good.Doc, Res: []api.Res{{Doc: shared}}}, {Doc: good.Doc, Res: []api.Res{{Doc: deep}}}} {
			s := [3]api.State{good, good, good}
			s[side] = bad
			asked := trio{some(), 5, s}
			want(t, "Three", asked.three(), invalid)
			want(t, "Pick", merge.Pick(some(), 5, s[0], s[1], s[2], make([]int, 1<<20)), invalid)
			if o, err := merge.Across(some(), 5, [3]int{5, 5, 5}, s); err != api.ErrType && err != api.ErrArg || o.Kind != 0 {
				t.Errorf("Across: %v, %s", err, short(show(o)))
			}
		}
	}
	one, two := api.Outcome{State: api.State{Doc: deep}}, api.Outcome{State: api.State{Doc: api.Doc{Kind: api.DList, Kids: []api.Doc{deep}}}}
	if !merge.Same(one, one) || merge.Same(one, two) {
		t.Error("Same of deep ones")
	}
	long := func(d string, n int) api.Res {
		return api.Res{Edge: 9, Step: make([]int, n), At: make([]string, n), Doc: val(d)}
	}
	o := merge.Three(some(), 5, good, state("{a = 3}", long("1", much-1), long("1", much)), state("{a = 3}", long("1", much-1), long("2", much)))
	if o.Kind != api.Conflicts || len(o.Clashes) != 1 || len(o.Clashes[0].Step) != much || len(o.Clashes[0].Path) != much {
		t.Errorf("long places: kind %d, %d clashes", o.Kind, len(o.Clashes))
	}
	many := api.Registry{Schemas: make([]api.Named, 1<<20), Joins: make([]api.Join, 1<<20)}
	want(t, "many schemas", merge.Three(many, 0, good, good, good), invalid)
	want(t, "many joins", merge.Three(api.Registry{Schemas: some().Schemas, Joins: many.Joins}, 0, good, good, good), invalid)
	want(t, "many takes", merge.Pick(some(), 5, good, state("{a = 4}"), state("{a = 5}"), slices.Repeat([]int{1}, 1<<20)), merged("{a = 4}"))
}
