package trans_test

import (
	"testing"

	"cabochon/api"
	"cabochon/trans"
)

func TestP11_4Edit(t *testing.T) {
	a := state(`{h = <"a": {port = 1}, "b": {port = 2}>, n = 3}`, left(0, place(0, 0), "true", "a"), left(0, place(0, 0), "false", "b"), left(1, place(0), `"x"`))
	for _, c := range []struct {
		r      api.Registry
		x      asked
		d      string
		wanted api.State
	}{
		{some(), asked{0, 0, state("{a = 3}", left(0, place(0), "true"))}, "{a = 4}", state("{a = 4}", left(0, place(0), "true"))},
		{some(), asked{0, 0, state("{a = 3}")}, "{a = 4}", state("{a = 4}", left(0, place(0), "false"))},
		{some(), asked{0, 1, state("{a = 3}", left(0, place(0), "true"))}, "{a = 4, b = false}", state("{a = 4}", left(0, place(0), "false"))},
		{some(), asked{0, 1, state("{a = 3}")}, "{a = 4, b = true}", state("{a = 4}", left(0, place(0), "true"))},
		{some(), asked{0, 2, state("{a = 3}")}, "{b = true, c = 5}", state("{a = 5}", left(0, place(0), "true"))},
		{some(), asked{1, 0, state("{a = 3, b = true}")}, "{a = 4}", state("{a = 4, b = true}")},
		{some(), asked{2, 0, state("{b = true, c = 3}")}, "{a = 4}", state("{b = true, c = 4}")},
		{some(), asked{2, 1, state("{b = true, c = 3}")}, "{a = 4, b = false}", state("{b = false, c = 4}")},
		{some(), asked{4, 3, state("{r = {}, x = true}")}, "{r = {x = false}}", state("{r = {}, x = false}")},
		{some(), asked{5, 5, state("{a = 3}", left(9, nil, "1"))}, "{a = 4}", state("{a = 4}", left(9, nil, "1"))},
		{row(), asked{0, 3, state("{}", left(0, place(0), "true"), left(2, place(0), "false"))}, "{y = false}", state("{}", left(0, place(0), "false"), left(2, place(0), "false"))},
		{row(), asked{0, 3, state("{}")}, "{y = false}", state("{}", left(0, place(0), "false"), left(2, place(0), "true"))},
		{row(), asked{3, 0, state("{y = false}", left(1, place(0), "true"))}, "{}", state("{y = false}", left(1, place(0), "true"))},

		// a schema that does not see something leaves it as it was, also at entries that it writes; what is new is as by Start
		{hosts(), asked{0, 2, a}, `{h = <"a": {tls = false}, "c": {tls = true}>, m = "y"}`,
			state(`{h = <"a": {port = 1}, "c": {port = 80}>, n = 3}`, left(0, place(0, 0), "false", "a"), left(0, place(0, 0), "true", "c"), left(1, place(0), `"y"`), left(1, place(1, 0), "2", "b"))},
		{hosts(), asked{0, 0, a}, `{h = <"b": {port = 7}, "c": {port = 8}>, n = 9}`,
			state(`{h = <"b": {port = 7}, "c": {port = 8}>, n = 9}`, left(0, place(0, 0), "true", "a"), left(0, place(0, 0), "false", "b"), left(0, place(0, 0), "true", "c"), left(1, place(0), `"x"`))},
	} {
		wantBoth(t, c.x.String(), c.wanted, api.OK)(trans.Edit(c.r, c.x.from, c.x.to, c.x.s, val(c.d)))
	}
}

// The example of the whole document.
func TestP11_4EditOfTheExample(t *testing.T) {
	r := registry("s: {port: int (0 .. 9)}", "t: {port: int (0 .. 9), tls: bool}", "0 > 1: add tls: bool = false;")
	s, _ := trans.Start(r, 0, val("{port = 5}"))
	wantBoth(t, "read", val("{port = 5, tls = false}"), api.OK)(trans.Seen(r, 0, 1, s))
	s, _ = trans.Edit(r, 0, 1, s, val("{port = 5, tls = true}"))
	s, _ = trans.Edit(r, 0, 0, s, val("{port = 6}"))
	wantBoth(t, "read again", val("{port = 6, tls = true}"), api.OK)(trans.Seen(r, 0, 1, s))
}

func TestP11_4EditThatMayNotBe(t *testing.T) {
	good, good1, bad, wide := state("{a = 3}"), state("{a = 3, b = true}"), state("{a = 3}", twice()...), state("{a = 3}", left(0, place(0), "7"))
	for _, c := range []struct {
		x   asked
		d   string
		err api.Errno
	}{
		{asked{0, 6, good}, "{a = 4}", api.ErrNone},
		{asked{-1, 0, good}, "{a = 4}", api.ErrNone},
		{asked{6, 6, bad}, "1", api.ErrNone},
		{asked{0, 3, good}, "{r = {x = true}}", api.ErrNoPath},
		{asked{5, 0, bad}, "1", api.ErrNoPath},
		{asked{0, 0, bad}, "{a = 4}", api.ErrArg},
		{asked{0, 1, bad}, "1", api.ErrArg},
		{asked{0, 0, good1}, "{a = 4}", api.ErrType},
		{asked{0, 1, good1}, "{a = 4, b = true}", api.ErrType},
		{asked{5, 5, state("{}", twice()...)}, "{a = 4}", api.ErrType},
		{asked{0, 1, wide}, "{a = 4, b = true}", api.ErrRange},
		{asked{0, 2, wide}, "1", api.ErrRange},

		{asked{0, 0, good}, "{a = 10}", api.ErrType},
		{asked{0, 0, good}, "{a = 4, b = true}", api.ErrType},
		{asked{0, 1, good}, "{a = 4}", api.ErrType},
		{asked{1, 0, good1}, "{a = 4, b = true}", api.ErrType},
		{asked{0, 2, good}, "{}", api.ErrType},
		{asked{5, 5, good}, "{b = 4}", api.ErrType},
		{asked{0, 0, wide}, "{b = 4}", api.ErrType},
		{asked{0, 0, wide}, "{a = 4}", api.ErrRange},
		{asked{0, 0, state("{a = 3}", many(9, 256)...)}, "{a = 4}", api.ErrArg},
	} {
		wantBoth(t, c.x.String()+", "+c.d, api.State{}, c.err)(trans.Edit(some(), c.x.from, c.x.to, c.x.s, val(c.d)))
	}
	wantBoth(t, "no document", api.State{}, api.ErrType)(trans.Edit(some(), 0, 1, good, api.Doc{}))
}

// At the limits: a document of few entries becomes one of more.
func TestP11_4EditAtTheLimit(t *testing.T) {
	s, _ := trans.Start(pile(), 2, piled(2, 3))
	for n, wanted := range map[int]api.Errno{3: api.OK, 128: api.OK, 129: api.ErrArg, 170: api.ErrArg, 171: api.ErrFull, 511: api.ErrType} {
		made, err := trans.Edit(pile(), 2, 0, s, piled(0, n))
		if err != wanted || err != api.OK && show(made) != "{}" || err == api.OK && show(made.Doc) != show(piled(2, n)) {
			t.Errorf("%d: %v, not %v: %s", n, err, wanted, short(show(made)))
		}
	}
}
