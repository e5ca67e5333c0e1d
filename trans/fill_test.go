package trans_test

import (
	"testing"

	"cabochon/api"
	"cabochon/trans"
)

func TestP11_2Fill(t *testing.T) {
	true0, b := left(0, place(0), "true"), left(9, place(1), "5", "k")
	for _, c := range []struct {
		r         api.Registry
		k         int
		s, wanted api.State
	}{
		{some(), 0, state("{a = 3}"), state("{a = 3}", left(0, place(0), "false"))},
		{some(), 0, state("{a = 3}", true0), state("{a = 3}", true0)},
		{some(), 0, state("{a = 3}", b), state("{a = 3}", left(0, place(0), "false"), b)},
		{some(), 0, state("{a = 3}", left(0, place(1), "1")), state("{a = 3}", left(0, place(0), "false"), left(0, place(1), "1"))},
		{some(), 1, state("{a = 3, b = true}"), state("{a = 3, b = true}")},
		{some(), 2, state("{b = true, c = 3}"), state("{b = true, c = 3}")},
		{some(), 3, state("{r = {x = true}}"), state("{r = {x = true}}")},
		{some(), 4, state("{r = {}, x = true}", b), state("{r = {}, x = true}", b)},
		{some(), 5, state("{a = 3}"), state("{a = 3}")},
		{some(), 5, state("{a = 3}", true0, b), state("{a = 3}", true0, b)},

		{row(), 0, state("{}"), state("{}", left(0, place(0), "true"), left(2, place(0), "true"))},
		{row(), 0, state("{}", left(2, place(0), "false")), state("{}", left(0, place(0), "true"), left(2, place(0), "false"))},
		{row(), 0, state("{}", left(0, place(0), "false")), state("{}", left(0, place(0), "false"), left(2, place(0), "true"))},
		{row(), 1, state("{x = false}"), state("{x = false}", left(0, place(0), "true"))},
		{row(), 2, state("{x = false, y = false}"), state("{x = false, y = false}")},
		{row(), 3, state("{y = false}"), state("{y = false}", left(1, place(0), "false"))},
		{row(), 3, state("{y = false}", left(1, place(0), "true")), state("{y = false}", left(1, place(0), "true"))},

		{hosts(), 0, state(`{h = <"a": {port = 1}, "b": {port = 2}>, n = 3}`, left(0, place(0, 0), "false", "b")),
			state(`{h = <"a": {port = 1}, "b": {port = 2}>, n = 3}`, left(0, place(0, 0), "true", "a"), left(0, place(0, 0), "false", "b"), left(1, place(0), `"y"`))},
		{hosts(), 0, state(`{h = <>, n = 3}`), state(`{h = <>, n = 3}`, left(1, place(0), `"y"`))},
		{hosts(), 1, state(`{h = <"a": {port = 1, tls = true}>}`), state(`{h = <"a": {port = 1, tls = true}>}`, left(0, place(1), "1"), left(1, place(0), `"y"`))},
		{hosts(), 2, state(`{h = <"a": {tls = false}>, m = "x"}`), state(`{h = <"a": {tls = false}>, m = "x"}`, left(0, place(1), "1"), left(1, place(1, 0), "80", "a"))},
		{hosts(), 2, state(`{h = <"a": {tls = false}>, m = "x"}`, left(0, place(1), "9"), left(1, place(1, 0), "7", "a"), left(1, place(1, 0), "6", "b")),
			state(`{h = <"a": {tls = false}>, m = "x"}`, left(0, place(1), "9"), left(1, place(1, 0), "7", "a"), left(1, place(1, 0), "6", "b"))},
	} {
		wantBoth(t, name(c.k)+", "+show(c.s), c.wanted, api.OK)(trans.Fill(c.r, c.k, c.s))
		if len(c.s.Res) == 0 {
			wantBoth(t, "Start, "+name(c.k)+", "+show(c.s), c.wanted, api.OK)(trans.Start(c.r, c.k, c.s.Doc))
		}
	}
}

// What is left out where a way there leaves something out, and a way back takes it, is so no more, whatever it was: near to the schema, and far from it.
func TestP11_2FillByWhatIsLeftOutInVain(t *testing.T) {
	more := left(0, place(0, 0), "8")
	for _, d := range []string{"true", "[7]"} {
		vain := left(0, place(0), d)
		for k, s := range []api.State{1: state("{a = 3, b = true}"), 2: state("{b = true, c = 3}")} {
			if k > 0 {
				wantBoth(t, name(k), api.State{Doc: s.Doc, Res: res(more)}, api.OK)(trans.Fill(some(), k, api.State{Doc: s.Doc, Res: res(vain, more)}))
			}
		}
	}
	// of the row, what is left out at 3 of join 0 and join 2 is in vain, though it is not at 0
	s := state("{y = false}", left(0, place(0), "true"), left(1, place(0), "true"), left(2, place(0), "true"))
	wantBoth(t, "far", state("{y = false}", left(1, place(0), "true")), api.OK)(trans.Fill(row(), 3, s))
}

func TestP11_2FillThatMayNotBe(t *testing.T) {
	good, bad := state("{a = 3}"), state("{a = 3}", twice()...)
	ask := func(what string, r api.Registry, k int, s api.State, err api.Errno) {
		t.Helper()
		wantBoth(t, what+": "+show(s), api.State{}, err)(trans.Fill(r, k, s))
		if len(s.Res) == 0 {
			wantBoth(t, what+", Start: "+show(s), api.State{}, err)(trans.Start(r, k, s.Doc))
		}
		if trans.Whole(r, k, s) {
			t.Errorf("%s: whole: %s", what, show(s))
		}
	}
	for _, k := range []int{-1, 6, 12, api.MinInt, api.MaxInt} {
		for _, s := range []api.State{good, bad, {}} {
			ask("no such schema", some(), k, s, api.ErrNone)
			ask("no schema", api.Registry{}, k, s, api.ErrNone)
		}
	}
	ask("no schema", api.Registry{}, 0, good, api.ErrNone)
	for _, k := range []int{0, 5} {
		for _, d := range []string{"{}", "3", "{a = 10}", "{a = true}", "{a = 3, b = true}", "{b = true, c = 3}"} {
			ask("another type", some(), k, state(d), api.ErrType)
			ask("another type, ahead of rows", some(), k, state(d, twice()...), api.ErrType)
			ask("another type, ahead of what it may not be", some(), k, state(d, left(0, place(0), "7")), api.ErrType)
		}
		ask("no document", some(), k, api.State{}, api.ErrType)
		ask("no right row", some(), k, bad, api.ErrArg)
		ask("no right row, ahead of what it may not be", some(), k, state("{a = 3}", left(0, place(0), "7"), left(0, place(0), "7")), api.ErrArg)
		ask("a longer row", some(), k, state("{a = 3}", many(9, 257)...), api.ErrArg)
	}
	ask("of no such type", some(), 0, state("{a = 3}", left(0, place(0), "7")), api.ErrRange)
	ask("of no such type, far", row(), 0, state("{}", left(0, place(0), "7")), api.ErrRange)
	ask("of no such type, at an entry", hosts(), 2, state(`{h = <"a": {tls = false}>, m = "x"}`, left(1, place(1, 0), "100", "a")), api.ErrRange)
	ask("too many parts there", pile(), 0, api.State{Doc: piled(0, 256)}, api.ErrFull)
	ask("too many parts far from there", pile(), 0, api.State{Doc: piled(0, 171)}, api.ErrFull)
	ask("too much left out", pile(), 0, api.State{Doc: piled(0, 170)}, api.ErrArg)
}

// As much may be left out as 256, at each schema; the row of pile leaves out as much as it has entries at each join.
func TestP11_2FillAtTheLimit(t *testing.T) {
	for k, lefts := range []int{2, 1, 1} {
		made, err := trans.Start(pile(), k, piled(k, 128))
		if err != api.OK || len(made.Res) > 256 || show(made.Doc) != show(piled(k, 128)) || !trans.Whole(pile(), k, made) {
			t.Errorf("%d: %v, %d", k, err, len(made.Res))
		}
		if k < 2 && len(made.Res) != 128*lefts {
			t.Errorf("%d: %d left out", k, len(made.Res))
		}
		wantBoth(t, "one more", api.State{}, api.ErrArg)(trans.Start(pile(), k, piled(k, 129)))
	}
	full := api.State{Doc: val("{a = 3}"), Res: many(9, 255)}
	made, err := trans.Fill(some(), 0, full)
	if err != api.OK || len(made.Res) != 256 {
		t.Errorf("%v, %d", err, len(made.Res))
	}
	full.Res = many(9, 256)
	wantBoth(t, "no room", api.State{}, api.ErrArg)(trans.Fill(some(), 0, full))
	wantBoth(t, "no room is asked for", api.State{Doc: val("{a = 3, b = true}"), Res: many(9, 255)}, api.OK)(trans.Fill(some(), 1, api.State{Doc: val("{a = 3, b = true}"), Res: many(9, 255)}))
	wantBoth(t, "no room on the way", api.State{}, api.ErrArg)(trans.Fill(some(), 1, api.State{Doc: val("{a = 3, b = true}"), Res: many(9, 256)}))
}

// From the schema in the middle of pile, what is behind the one join is left out when the other one was gone through already, so that there is too much on that way the second time alone. From the others, or with joins in another order, it is too much the first time.
func TestP11_2FillTwice(t *testing.T) {
	other := pile()
	other.Joins[0], other.Joins[1] = other.Joins[1], other.Joins[0]
	for _, r := range []api.Registry{pile(), other} {
		for n, err := range map[int]api.Errno{1: api.OK, 128: api.OK, 129: api.ErrArg, 169: api.ErrArg} {
			if made, told := trans.Start(r, 1, piled(1, n)); told != err || (err == api.OK) != (len(made.Res) == n) {
				t.Errorf("%d: %v, %d", n, told, len(made.Res))
			}
		}
	}
}

// Joins are gone through in order, and what is behind one of them ahead of the next one.
func TestP11_2FillTellsTheFirstError(t *testing.T) {
	schemas := []string{
		"s: {d: dict (0 .. 512) of {}}", "t: {d: dict (0 .. 512) of {}, p: bool}", "u: {d: dict (0 .. 512) of {}, p: bool, q: bool}", "v: {d: dict (0 .. 512) of {a: bool}}",
	}
	near, far, full := "0 > 1: add p: bool = true;", "1 > 2: add q: bool = true;", "3 > 0: map d {remove a: bool = true;};"
	big := rec("d", dict(256, val("{}")))
	for _, c := range []struct {
		joins             []string
		p, q              int // the places of near and far
		byNear, byFar, by api.Errno
	}{
		{[]string{near, far, full}, 0, 1, api.ErrRange, api.ErrRange, api.ErrFull},
		{[]string{near, full, far}, 0, 2, api.ErrRange, api.ErrRange, api.ErrFull},
		{[]string{far, near, full}, 1, 0, api.ErrRange, api.ErrRange, api.ErrFull},
		{[]string{full, near, far}, 1, 2, api.ErrFull, api.ErrFull, api.ErrFull},
		{[]string{full, far, near}, 2, 1, api.ErrFull, api.ErrFull, api.ErrFull},
		{[]string{far, full, near}, 2, 0, api.ErrFull, api.ErrFull, api.ErrFull},
	} {
		r := registry(append(append([]string(nil), schemas...), c.joins...)...)
		for place0, err := range map[int]api.Errno{c.p: c.byNear, c.q: c.byFar, 77: c.by} {
			s := api.State{Doc: big, Res: res(left(place0, place(0), "7"))}
			wantBoth(t, show(c.joins)+", "+show(place0), api.State{}, err)(trans.Fill(r, 0, s))
		}
	}
}
