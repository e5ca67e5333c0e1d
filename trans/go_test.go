package trans_test

import (
	"fmt"
	"testing"

	"cabochon/api"
	"cabochon/trans"
)

// asked is what a call of some registry is asked of: of the schema from, or from it to another one.
type asked struct {
	from, to int
	s        api.State
}

func (x asked) String() string { return fmt.Sprint(x.from, " to ", x.to, ": ", short(show(x.s))) }

func TestP11_1Go(t *testing.T) {
	for _, c := range []struct {
		r      api.Registry
		x      asked
		wanted api.State
	}{
		{some(), asked{0, 1, state("{a = 3}")}, state("{a = 3, b = false}")},
		{some(), asked{0, 1, state("{a = 3}", left(0, place(0), "true"))}, state("{a = 3, b = true}")},
		{some(), asked{0, 2, state("{a = 3}")}, state("{b = false, c = 3}")},
		{some(), asked{0, 2, state("{a = 3}", left(0, place(0), "true"))}, state("{b = true, c = 3}")},
		{some(), asked{1, 0, state("{a = 3, b = true}")}, state("{a = 3}", left(0, place(0), "true"))},
		{some(), asked{1, 2, state("{a = 3, b = true}")}, state("{b = true, c = 3}")},
		{some(), asked{2, 1, state("{b = true, c = 3}")}, state("{a = 3, b = true}")},
		{some(), asked{2, 0, state("{b = true, c = 3}")}, state("{a = 3}", left(0, place(0), "true"))},
		{some(), asked{3, 4, state("{r = {x = true}}")}, state("{r = {}, x = true}")},
		{some(), asked{4, 3, state("{r = {}, x = true}")}, state("{r = {x = true}}")},

		{row(), asked{0, 1, state("{}")}, state("{x = true}")},
		{row(), asked{0, 3, state("{}")}, state("{y = true}", left(1, place(0), "true"))},
		{row(), asked{0, 3, state("{}", left(0, place(0), "false"), left(2, place(0), "false"))}, state("{y = false}", left(1, place(0), "false"))},
		{row(), asked{3, 0, state("{y = false}")}, state("{}", left(0, place(0), "false"), left(2, place(0), "false"))},
		{row(), asked{3, 0, state("{y = false}", left(1, place(0), "true"))}, state("{}", left(0, place(0), "false"), left(2, place(0), "true"))},
		{row(), asked{1, 3, state("{x = false}")}, state("{y = true}", left(1, place(0), "false"))},
		{row(), asked{3, 1, state("{y = false}", left(1, place(0), "true"))}, state("{x = true}", left(0, place(0), "false"))},

		{hosts(), asked{0, 2, state(`{h = <"a": {port = 1}, "b": {port = 2}>, n = 3}`, left(0, place(0, 0), "false", "b"), left(1, place(0), `"x"`))},
			state(`{h = <"a": {tls = true}, "b": {tls = false}>, m = "x"}`, left(0, place(1), "3"), left(1, place(1, 0), "1", "a"), left(1, place(1, 0), "2", "b"))},
		{hosts(), asked{2, 0, state(`{h = <"a": {tls = false}>, m = "x"}`)}, state(`{h = <"a": {port = 80}>, n = 1}`, left(0, place(0, 0), "false", "a"), left(1, place(0), `"x"`))},
	} {
		wantBoth(t, c.x.String(), c.wanted, api.OK)(trans.Go(c.r, c.x.from, c.x.to, c.x.s))
		wantBoth(t, "Seen, "+c.x.String(), c.wanted.Doc, api.OK)(trans.Seen(c.r, c.x.from, c.x.to, c.x.s))
	}
}

// What is left out where nothing is taken stays so; where something is left out on the way, that is there instead.
func TestP11_1GoByWhatIsLeftOut(t *testing.T) {
	r := some()
	more := res(left(-3, place(0), "1"), left(0, nil, "2"), left(0, place(0), "3", "k"), left(0, place(0, 0), "4"), left(0, place(1), "5"), left(2, place(0), "6"), left(77, place(0), "[[]]"))
	with := func(l ...api.Res) []api.Res { return append(append(append(res(), more[:2]...), l...), more[2:]...) }
	wantBoth(t, "with more", api.State{Doc: val("{b = false, c = 3}"), Res: more}, api.OK)(trans.Go(r, 0, 2, api.State{Doc: val("{a = 3}"), Res: more}))
	for _, l := range [][]api.Res{more, with(left(0, place(0), "false")), with(left(0, place(0), "[7]"))} {
		wantBoth(t, "with more, back", api.State{Doc: val("{a = 3}"), Res: with(left(0, place(0), "true"))}, api.OK)(trans.Go(r, 2, 0, api.State{Doc: val("{b = true, c = 3}"), Res: l}))
	}
	for k, d := range []string{"{a = 3}", "{a = 3, b = true}", "{b = true, c = 3}", "{r = {x = true}}", "{r = {}, x = true}", "{a = 9}"} {
		for _, l := range [][]api.Res{nil, more, with(left(0, place(0), "7")), many(5, api.MaxRes)} {
			s := api.State{Doc: val(d), Res: l}
			wantBoth(t, "nowhere", s, api.OK)(trans.Go(r, k, k, s))
			wantBoth(t, "nowhere", s.Doc, api.OK)(trans.Seen(r, k, k, s))
		}
	}
}

// wantNone asks Go, and what is Seen, for an error.
func wantNone(t *testing.T, r api.Registry, x asked, wanted api.Errno) {
	t.Helper()
	wantBoth(t, x.String(), api.State{}, wanted)(trans.Go(r, x.from, x.to, x.s))
	wantBoth(t, "Seen, "+x.String(), api.Doc{}, wanted)(trans.Seen(r, x.from, x.to, x.s))
}

// twice is what is left out at one place twice: a row that is not right.
func twice() []api.Res { return res(left(5, place(0), "1"), left(5, place(0), "1")) }

func TestP11_1GoThatMayNotBe(t *testing.T) {
	good, bad := state("{a = 3}"), state("{a = 3}", twice()...)
	for _, k := range []int{-1, 6, 12, api.MinInt, api.MaxInt} {
		for _, s := range []api.State{good, bad, {}} {
			for _, other := range []int{0, 5, k, -2} {
				wantNone(t, some(), asked{k, other, s}, api.ErrNone)
				wantNone(t, some(), asked{other, k, s}, api.ErrNone)
			}
			wantNone(t, api.Registry{}, asked{k, k, s}, api.ErrNone)
		}
	}
	for _, c := range [][2]int{{0, 3}, {0, 5}, {2, 4}, {3, 0}, {4, 5}, {5, 0}, {5, 3}} {
		for _, s := range []api.State{good, bad, {}} {
			wantNone(t, some(), asked{c[0], c[1], s}, api.ErrNoPath)
		}
	}
	for _, c := range []struct {
		x   asked
		err api.Errno
	}{
		{asked{0, 0, bad}, api.ErrArg},
		{asked{0, 1, bad}, api.ErrArg},
		{asked{0, 2, bad}, api.ErrArg},
		{asked{0, 0, state("{a = 3}", left(1, nil, "1"), left(0, nil, "1"))}, api.ErrArg},
		{asked{0, 0, state("{a = 3}", api.Res{})}, api.ErrArg},
		{asked{0, 0, state("{a = 3}", many(5, 257)...)}, api.ErrArg},
		{asked{0, 2, state("{a = 3}", many(5, 257)...)}, api.ErrArg},
		{asked{5, 5, bad}, api.ErrArg},

		{asked{0, 0, api.State{}}, api.ErrType},
		{asked{0, 0, state("{}")}, api.ErrType},
		{asked{0, 0, state("{a = 10}")}, api.ErrType},
		{asked{0, 0, state("{a = 3, b = true}")}, api.ErrType},
		{asked{0, 0, state("3")}, api.ErrType},
		{asked{0, 1, state("{a = 3, b = true}")}, api.ErrType},
		{asked{0, 2, state("{b = true, c = 3}")}, api.ErrType},
		{asked{1, 0, state("{a = 3}")}, api.ErrType},
		{asked{2, 0, state("{a = 3, b = true}")}, api.ErrType},

		// where nothing is gone through, the document is looked at ahead of what is left out; a lens looks at that first
		{asked{0, 0, state("{}", twice()...)}, api.ErrType},
		{asked{5, 5, state("{b = 1}", twice()...)}, api.ErrType},
		{asked{0, 1, state("{}", twice()...)}, api.ErrArg},
		{asked{2, 0, state("{}", twice()...)}, api.ErrArg},

		{asked{0, 1, state("{a = 3}", left(0, place(0), "1"))}, api.ErrRange},
		{asked{0, 2, state("{a = 3}", left(0, place(0), "[true]"))}, api.ErrRange},
	} {
		wantNone(t, some(), c.x, c.err)
	}
}

func TestP11_1GoTellsTheFirstError(t *testing.T) {
	r := registry(
		"s: {d: dict (0 .. 512) of {}}", "t: {b: bool, d: dict (0 .. 512) of {}}", "u: {b: bool, d: dict (0 .. 512) of {a: bool}}", "v: {b: bool, c: bool, d: dict (0 .. 512) of {a: bool}}",
		"0 > 1: add b: bool = true;", "2 > 1: map d {remove a: bool = true;};", "2 > 3: add c: bool = true;",
	)
	d := func(n int) api.Doc { return rec("d", dict(n, val("{}"))) }
	one, three := left(0, place(0), "7"), left(2, place(0), "7")
	for _, c := range []struct {
		to  int
		s   api.State
		err api.Errno
	}{
		{3, api.State{Doc: d(254)}, api.OK},
		{3, api.State{Doc: d(255), Res: res(one, three)}, api.ErrRange},
		{2, api.State{Doc: d(255)}, api.ErrFull},
		{3, api.State{Doc: d(255), Res: res(three)}, api.ErrFull},
		{3, api.State{Doc: d(254), Res: res(three)}, api.ErrRange},
		{2, api.State{Doc: d(254), Res: res(three)}, api.OK},
		{1, api.State{Doc: d(509)}, api.OK},
		{1, api.State{Doc: d(510), Res: res(three)}, api.ErrFull},
	} {
		if c.err != api.OK {
			wantNone(t, r, asked{0, c.to, c.s}, c.err)
		} else if made, err := trans.Go(r, 0, c.to, c.s); err != api.OK || len(made.Doc.Kids) == 0 {
			t.Errorf("to %d: %v, %s", c.to, err, short(show(made)))
		}
	}
	// at 1 so much is left out as may be; on the way from there to 0 it is more
	s := api.State{Doc: piled(1, 100), Res: many(9, 156)}
	made, err := trans.Go(pile(), 1, 0, s)
	if err != api.OK || len(made.Res) != api.MaxRes {
		t.Errorf("%d, %v", len(made.Res), err)
	}
	s.Res = many(9, 157)
	wantNone(t, pile(), asked{1, 0, s}, api.ErrArg)
	wantNone(t, pile(), asked{2, 0, api.State{Doc: piled(2, 129)}}, api.ErrArg)
	wantBoth(t, "as many as may be", piled(0, 128), api.OK)(trans.Seen(pile(), 2, 0, api.State{Doc: piled(2, 128)}))
}

func TestP11_1To4OfRegistriesThatAreNotRight(t *testing.T) {
	for _, r := range wrong() {
		for _, k := range []int{-1, 0, 1, 2, 13} {
			for _, s := range []api.State{state("{a = true}"), {}, state("{a = true}", twice()...)} {
				wantNone(t, r, asked{k, k, s}, api.ErrArg)
				wantNone(t, r, asked{k, 0, s}, api.ErrArg)
				wantNone(t, r, asked{0, k, s}, api.ErrArg)
				wantBoth(t, "Fill", api.State{}, api.ErrArg)(trans.Fill(r, k, s))
				wantBoth(t, "Start", api.State{}, api.ErrArg)(trans.Start(r, k, s.Doc))
				wantBoth(t, "Edit", api.State{}, api.ErrArg)(trans.Edit(r, k, k, s, s.Doc))
				wantBoth(t, "Edit", api.State{}, api.ErrArg)(trans.Edit(r, 0, k, s, s.Doc))
				if trans.Whole(r, k, s) {
					t.Errorf("whole: %d, %s of %s", k, show(s), short(show(r)))
				}
			}
		}
	}
}
