package trans_test

import (
	"slices"
	"testing"

	"cabochon/api"
	"cabochon/apply"
	"cabochon/doc"
	"cabochon/graph"
	"cabochon/trans"
	"cabochon/valid"
)

// wantGo is what x is at the schema to.
func wantGo(t *testing.T, x at, to int) at {
	t.Helper()
	there, err := trans.Go(x.r, x.k, to, x.s)
	if err != api.OK {
		t.Errorf("%d to %d: %v: %s of %s", x.k, to, err, show(x.s), short(show(x.r)))
	}
	return at{x.r, to, there}
}

func TestP11_6WholeStatesGoThereAndBack(t *testing.T) {
	t.Parallel()
	ways, lefts := 0, 0
	for _, x := range randoms(41, 300) {
		if !trans.Whole(x.r, x.k, x.s) {
			t.Errorf("not whole: %s at %d of %s", show(x.s), x.k, short(show(x.r)))
		}
		for _, to := range graph.Component(x.r, x.k) {
			there := wantGo(t, x, to)
			ways++
			lefts += len(there.s.Res)
			if !trans.Whole(x.r, to, there.s) || !valid.Is(x.r.Schemas[to].Type, there.s.Doc) {
				t.Errorf("%d to %d: not whole: %s of %s", x.k, to, show(there.s), short(show(x.r)))
			}
			want(t, "back", wantGo(t, there, x.k).s, x.s)
			for _, third := range graph.Component(x.r, x.k) {
				want(t, "by a third one", wantGo(t, there, third).s, wantGo(t, x, third).s)
			}
		}
	}
	if ways < 800 || lefts < 1000 {
		t.Errorf("%d ways, %d left out", ways, lefts)
	}
}

// At the limits, too.
func TestP11_6WholeStatesAtTheLimits(t *testing.T) {
	for k := range 3 {
		s, err := trans.Start(pile(), k, piled(k, 128))
		if err != api.OK || !trans.Whole(pile(), k, s) {
			t.Errorf("%d: %v", k, err)
		}
		for to := range 3 {
			there := wantGo(t, at{pile(), k, s}, to)
			want(t, "back", wantGo(t, there, k).s, s)
			want(t, "as it starts there", there.s.Doc, piled(to, 128))
			if !trans.Whole(pile(), to, there.s) {
				t.Errorf("%d to %d: not whole", k, to)
			}
		}
	}
}

func TestP11_7WhatStartTellsIsWhole(t *testing.T) {
	t.Parallel()
	r := chance(43, 44)
	for _, x := range randoms(45, 150) {
		for k, schema := range x.r.Schemas {
			d := randomDoc(r, schema.Type)
			s, err := trans.Start(x.r, k, d)
			if !valid.Is(schema.Type, d) {
				continue
			}
			if err != api.OK || !trans.Whole(x.r, k, s) || show(s.Doc) != show(d) {
				t.Errorf("%s at %d of %s: %s, %v", show(d), k, short(show(x.r)), show(s), err)
			}
		}
	}
}

func TestP11_7WhatIsSeenIsOfTheType(t *testing.T) {
	t.Parallel()
	r := chance(47, 48)
	seen := 0
	for _, x := range randoms(49, 300) {
		s := messed(r, x)
		for to, schema := range x.r.Schemas {
			d, err := trans.Seen(x.r, x.k, to, s)
			if err != api.OK {
				continue
			}
			seen++
			if !valid.Is(schema.Type, d) {
				t.Errorf("%s at %d: %s at %d of %s", show(s), x.k, show(d), to, short(show(x.r)))
			}
		}
	}
	if seen < 400 {
		t.Errorf("%d were seen", seen)
	}
}

// What a schema writes is what it sees, and what it does not see stays as it was: so that who writes what they saw changes nothing.
func TestP11_4WhatIsEditedIsSeen(t *testing.T) {
	t.Parallel()
	r := chance(51, 52)
	for _, x := range randoms(53, 200) {
		for _, to := range graph.Component(x.r, x.k) {
			seen, _ := trans.Seen(x.r, x.k, to, x.s)
			wantBoth(t, "written as it was", x.s, api.OK)(trans.Edit(x.r, x.k, to, x.s, seen))
			d := otherwise(r, x.r.Schemas[to].Type, seen)
			made, err := trans.Edit(x.r, x.k, to, x.s, d)
			if err != api.OK || !trans.Whole(x.r, x.k, made) {
				t.Errorf("%v: %s at %d of %s", err, show(made), x.k, short(show(x.r)))
			}
			wantBoth(t, "written", d, api.OK)(trans.Seen(x.r, x.k, to, made))
			want(t, "what it leaves out", wantGo(t, at{x.r, x.k, made}, to).s.Res, wantGo(t, x, to).s.Res)
		}
	}
}

// No call panics, each ends, and tells the same again, whatever it is given.
func TestW1AnyArguments(t *testing.T) {
	r := chance(55, 56)
	all := randoms(57, 200)
	numbers := []int{-1, 0, 1, 2, 5, 12, 13, api.MinInt, api.MaxInt}
	docs := []api.Doc{{}, val("{}"), val("[1]"), {Kind: api.DRec, Keys: []string{"a", "b"}}, {Kind: api.DRec, Kids: make([]api.Doc, 2)}, {Kind: api.DList, Kids: make([]api.Doc, 600)}, {Kind: -5, Num: 7}}
	rows := [][]api.Res{nil, make([]api.Res, 3), many(1, 300), twice(), res(left(0, place(0), "true")), res(api.Res{Doc: docs[3]})}
	for range 1500 {
		x, other := any1(r, all), any1(r, all)
		if r.IntN(4) == 0 {
			x.r = any1(r, wrong())
		}
		s := api.State{Doc: any1(r, append(docs, x.s.Doc, x.s.Doc, x.s.Doc, other.s.Doc)), Res: any1(r, append(rows, x.s.Res, x.s.Res, x.s.Res, other.s.Res))}
		from, to, d := any1(r, append(numbers, x.k, x.k, x.k)), any1(r, numbers), any1(r, append(docs, x.s.Doc))
		ask := func() string {
			one, err1 := trans.Go(x.r, from, to, s)
			two, err2 := trans.Fill(x.r, from, s)
			three, err3 := trans.Start(x.r, from, d)
			four, err4 := trans.Seen(x.r, from, to, s)
			five, err5 := trans.Edit(x.r, from, to, s, d)
			for i, err := range []api.Errno{err1, err2, err3, err4, err5} {
				if told := show([]any{one, two, three, four, five}[i]); err != api.OK && show([]any{api.State{}, api.State{}, api.State{}, api.Doc{}, api.State{}}[i]) != told {
					t.Errorf("call %d: %v, and %s", i, err, short(told))
				}
			}
			return show([]any{one, two, three, four, five, err1, err2, err3, err4, err5, trans.Whole(x.r, from, s)})
		}
		if one, two := ask(), ask(); one != two {
			t.Errorf("%s, and then %s", short(one), short(two))
		}
	}
}

func TestW1FarTooMuch(t *testing.T) {
	const much = 1 << 16
	shared, deep := doc.Int(1), doc.Int(1)
	for range 60 {
		shared = api.Doc{Kind: api.DList, Kids: []api.Doc{shared, shared}}
	}
	for range much {
		deep = api.Doc{Kind: api.DList, Kids: []api.Doc{deep}}
	}
	most := make([]api.Res, 1<<18)
	for i := range most {
		most[i] = api.Res{Edge: i, Doc: val("true")}
	}
	good := val("{a = 3}")
	for k := range 6 {
		for _, d := range []api.Doc{shared, deep, {Kind: api.DRec, Keys: []string{"a"}, Kids: []api.Doc{shared}}, {Kind: api.DRec, Keys: []string{"a"}, Kids: []api.Doc{deep}}} {
			wantBoth(t, "Go", api.State{}, api.ErrType)(trans.Go(some(), k, k, api.State{Doc: d}))
			wantBoth(t, "Seen", api.Doc{}, api.ErrType)(trans.Seen(some(), 0, k%3, api.State{Doc: d}))
			wantBoth(t, "Fill", api.State{}, api.ErrType)(trans.Fill(some(), k, api.State{Doc: d}))
			wantBoth(t, "Start", api.State{}, api.ErrType)(trans.Start(some(), k, d))
			wantBoth(t, "Edit", api.State{}, api.ErrType)(trans.Edit(some(), 0, 0, api.State{Doc: good}, d))
		}
	}
	for _, l := range [][]api.Res{most, {{Doc: shared}}, {{Doc: deep}}} {
		for to := range 3 {
			if made, err := trans.Go(some(), 0, to, api.State{Doc: good, Res: l}); err != api.ErrArg || len(made.Res) > 0 {
				t.Errorf("to %d: %v", to, err)
			}
		}
		if made, err := trans.Fill(some(), 0, api.State{Doc: good, Res: l}); err != api.ErrArg || len(made.Res) > 0 || trans.Whole(some(), 0, api.State{Doc: good, Res: l}) {
			t.Errorf("filled: %v", err)
		}
	}
	long := api.Res{Edge: 9, Step: make([]int, much), At: make([]string, much), Doc: val("true")}
	made, err := trans.Fill(some(), 0, api.State{Doc: good, Res: []api.Res{long}})
	if err != api.OK || apply.Find(made.Res, 9, long.Step, long.At) != 1 || len(made.Res) != 2 {
		t.Errorf("of a long place: %v, %d", err, len(made.Res))
	}
	many := api.Registry{Schemas: make([]api.Named, 1<<20), Joins: make([]api.Join, 1<<20)}
	wantNone(t, many, asked{0, 0, state("{a = 3}")}, api.ErrArg)
	wantNone(t, api.Registry{Schemas: some().Schemas, Joins: many.Joins}, asked{0, 0, state("{a = 3}")}, api.ErrArg)
}

// As many schemas as may be, in a row, and around one.
func TestW1AsManySchemasAsMayBe(t *testing.T) {
	row, star := alike(12), alike(12)
	for k := range 11 {
		row.Joins = append(row.Joins, join(k, k+1))
		star.Joins = append(star.Joins, join(0, k+1))
	}
	slices.Reverse(row.Joins)
	for _, r := range []api.Registry{row, star} {
		for k := range 12 {
			s := state("{a = true}", left(99, place(0), "5"))
			wantBoth(t, "there", s, api.OK)(trans.Go(r, k, 11-k, s))
			wantBoth(t, "filled", s, api.OK)(trans.Fill(r, k, s))
			wantBoth(t, "edited", state("{a = false}", s.Res...), api.OK)(trans.Edit(r, k, 11-k, s, val("{a = false}")))
			if trans.Whole(r, k, s) || !trans.Whole(r, k, state("{a = true}")) {
				t.Errorf("%d: whole", k)
			}
		}
	}
}
