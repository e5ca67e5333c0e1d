package apply_test

import (
	"slices"
	"testing"

	"cabochon/api"
	"cabochon/apply"
	"cabochon/doc"
	"cabochon/lens"
)

// Each way there, and back again: what is left out at either end.
func TestP8_2Steps(t *testing.T) {
	yes := "bool"
	for _, c := range []struct {
		from      string
		l         []api.Lens
		d, made   string
		res, back []api.Res
	}{
		{"{a: bool}", nil, "{a = true}", "{a = true}", nil, nil},
		{"{}", nil, "{}", "{}", nil, nil},
		{"{a: int (0 .. 9)}", steps(rename("a", "b")), "{a = 5}", "{b = 5}", nil, nil},
		{"{a: bool, b: int (0 .. 9), c: bool}", steps(rename("b", "z")), "{a = true, b = 5, c = false}", "{a = true, c = false, z = 5}", nil, nil},
		{"{b: bool, c: int (0 .. 9)}", steps(rename("c", "a")), "{b = true, c = 5}", "{a = 5, b = true}", nil, nil},
		{"{a?: int (0 .. 9), b: bool}", steps(rename("a", "c")), "{a = 5, b = true}", "{b = true, c = 5}", nil, nil},
		{"{a?: int (0 .. 9), b: bool}", steps(rename("a", "c")), "{b = true}", "{b = true}", nil, nil},
		{"{a?: int (0 .. 9), b?: bool}", steps(rename("a", "c"), rename("b", "a"), rename("c", "b")), "{b = true}", "{a = true}", nil, nil},
		{"{a?: int (0 .. 9), b?: bool}", steps(rename("a", "c"), rename("b", "a"), rename("c", "b")), "{a = 5}", "{b = 5}", nil, nil},
		{"{r: {a: list (0 .. 3) of bool}}", steps(rename("r", "s")), "{r = {a = [true, false]}}", "{s = {a = [true, false]}}", nil, nil},

		{"{}", steps(add("c", yes, "false")), "{}", "{c = false}", nil, res(out(place(0), "false"))},
		{"{b: bool, d?: bool}", steps(add("c", "int (3 .. 9)", "4")), "{b = true, d = true}", "{b = true, c = 4, d = true}", nil, res(out(place(0), "4"))},
		{"{b: bool, d?: bool}", steps(add("a", `enum ("x", "y")`, `"y"`), add("e", "bytes (0 .. 3)", `""`)), "{b = true}", `{a = "y", b = true, e = ""}`, nil, res(out(place(0), `"y"`), out(place(1), `""`))},

		{"{a: bool}", steps(remove("a", yes, "false")), "{a = true}", "{}", res(out(place(0), "true")), nil},
		{"{a: bool, b: int (3 .. 9), c: bool}", steps(remove("b", "int (3 .. 9)", "4")), "{a = true, b = 5, c = true}", "{a = true, c = true}", res(out(place(0), "5")), nil},
		{"{a: bytes (1 .. 3), b: bool}", steps(remove("b", yes, "false"), remove("a", "bytes (1 .. 3)", `"x"`)), `{a = "u", b = true}`, "{}", res(out(place(0), "true"), out(place(1), `"u"`)), nil},
		{"{a: bool}", steps(remove("a", yes, "false"), add("a", "int (0 .. 9)", "5")), "{a = true}", "{a = 5}", res(out(place(0), "true")), res(out(place(1), "5"))},
		{"{}", steps(add("a", yes, "false"), remove("a", yes, "true")), "{}", "{}", res(out(place(1), "false")), res(out(place(0), "false"))},

		{"{r: {x: bool}}", steps(hoist("r", "x")), "{r = {x = true}}", "{r = {}, x = true}", nil, nil},
		{"{b: bool, r: {a: {l: bool}, o?: bool, x: bool}}", steps(hoist("r", "a")), "{b = false, r = {a = {l = true}, x = true}}", "{a = {l = true}, b = false, r = {x = true}}", nil, nil},
		{"{a: {z: bool}, b: bool}", steps(hoist("a", "z")), "{a = {z = true}, b = false}", "{a = {}, b = false, z = true}", nil, nil},

		{"{r: {}, x: bool}", steps(plunge("r", "x")), "{r = {}, x = true}", "{r = {x = true}}", nil, nil},
		{"{a: int (0 .. 9), r: {b?: bool, d: bool}, x: bool}", steps(plunge("r", "a"), plunge("r", "x")), "{a = 5, r = {b = true, d = false}, x = true}", "{r = {a = 5, b = true, d = false, x = true}}", nil, nil},
		{"{a: {x: bool}, r: {x: bool}}", steps(plunge("r", "a")), "{a = {x = true}, r = {x = false}}", "{r = {a = {x = true}, x = false}}", nil, nil},
		{"{a: {x: bool}, r: {x: bool}}", steps(plunge("a", "r")), "{a = {x = true}, r = {x = false}}", "{a = {r = {x = false}, x = true}}", nil, nil},

		{"{a: bool, b: int (0 .. 9)}", steps(wrap("b")), "{a = true, b = 5}", "{a = true, b = [5]}", nil, nil},
		{"{a: bytes (0 .. 9)}", steps(wrap("a")), `{a = "x"}`, `{a = ["x"]}`, nil, nil},
		{"{a: bool, b: list (1 .. 1) of int (0 .. 9)}", steps(head("b")), "{a = true, b = [5]}", "{a = true, b = 5}", nil, nil},
		{"{a: bool}", steps(wrap("a"), head("a"), wrap("a")), "{a = true}", "{a = [true]}", nil, nil},

		{"{a: int (0 .. 9)}", steps(convert("a", [2]int{1, 5}, [2]int{0, 9})), "{a = 5}", "{a = 1}", nil, nil},
		{"{a: int (0 .. 9)}", steps(convert("a", [2]int{1, 5}, [2]int{0, 9})), "{a = 0}", "{a = 9}", nil, nil},
		{"{a: int (0 .. 9)}", steps(convert("a", [2]int{1, 5}, [2]int{0, 9})), "{a = 4}", "{a = 4}", nil, nil},
		{"{a: int (0 .. 9)}", steps(convert("a", [2]int{1, 5}), convert("a", [2]int{5, 7})), "{a = 1}", "{a = 7}", nil, nil},
		{"{a: int (-9223372036854775808 .. 9223372036854775807), b: int (0 .. 9)}", steps(convert("a", [2]int{api.MaxInt, api.MinInt})), "{a = -9223372036854775808, b = 1}", "{a = 9223372036854775807, b = 1}", nil, nil},

		{"{r: {x: bool}}", steps(in("r")), "{r = {x = true}}", "{r = {x = true}}", nil, nil},
		{"{r: {x: bool}, x: bool}", steps(in("r", rename("x", "y"))), "{r = {x = true}, x = false}", "{r = {y = true}, x = false}", nil, nil},
		{"{r: {x: bool}, x: bool}", steps(rename("x", "z"), in("r", rename("x", "y"), remove("y", yes, "false"), add("w", yes, "false"))),
			"{r = {x = true}, x = false}", "{r = {w = false}, z = false}", res(out(place(1, 1), "true")), res(out(place(1, 2), "false"))},
		{"{r: {s: {x: bool}}}", steps(in("r", in("s", remove("x", yes, "false")), in("s", wrapOf("z")...))),
			"{r = {s = {x = true}}}", "{r = {s = {z = [1]}}}", res(out(place(0, 0, 0), "true")), res(out(place(0, 1, 0), "1"))},

		{"{d: dict (0 .. 9) of {x: bool}}", steps(each("d", remove("x", yes, "false"))), "{d = <>}", "{d = <>}", nil, nil},
		{"{d: dict (0 .. 9) of {x: bool}}", steps(each("d")), `{d = <"k": {x = true}>}`, `{d = <"k": {x = true}>}`, nil, nil},
		{"{d: dict (0 .. 9) of {x: bool}}", steps(each("d", remove("x", yes, "false"))), `{d = <"": {x = false}, "\x00": {x = true}, "k": {x = true}>}`, `{d = <"": {}, "\x00": {}, "k": {}>}`,
			res(out(place(0, 0), "false", ""), out(place(0, 0), "true", "\x00"), out(place(0, 0), "true", "k")), nil},
		{"{d: dict (0 .. 9) of {o?: bool, x: bool}}", steps(rename("d", "e"), each("e", rename("o", "p"), remove("x", yes, "false"), add("y", "int (0 .. 9)", "5"))),
			`{d = <"k": {o = true, x = true}, "l": {x = false}>}`, `{e = <"k": {p = true, y = 5}, "l": {y = 5}>}`,
			res(out(place(1, 1), "true", "k"), out(place(1, 1), "false", "l")), res(out(place(1, 2), "5", "k"), out(place(1, 2), "5", "l"))},
		{"{d: dict (0 .. 9) of {e: dict (0 .. 9) of {r: {x: bool}}}}", steps(each("d", each("e", in("r", remove("x", yes, "false"))))),
			`{d = <"a": {e = <"b": {r = {x = true}}, "c": {r = {x = false}}>}, "b": {e = <"b": {r = {x = false}}>}>}`, `{d = <"a": {e = <"b": {r = {}}, "c": {r = {}}>}, "b": {e = <"b": {r = {}}>}>}`,
			res(out(place(0, 0, 0, 0), "true", "a", "b"), out(place(0, 0, 0, 0), "false", "a", "c"), out(place(0, 0, 0, 0), "false", "b", "b")), nil},
		{"{d: dict (0 .. 9) of {x: bool, y: bool}}", steps(each("d", remove("y", yes, "false"), remove("x", yes, "false"))), `{d = <"k": {x = true, y = false}, "l": {x = false, y = true}>}`, `{d = <"k": {}, "l": {}>}`,
			res(out(place(0, 0), "false", "k"), out(place(0, 0), "true", "l"), out(place(0, 1), "true", "k"), out(place(0, 1), "false", "l")), nil},

		{"{a: int (0 .. 9), r: {b: bool, c: int (0 .. 9)}}",
			steps(hoist("r", "c"), plunge("r", "a"), convert("c", [2]int{1, 2}), wrap("c"), rename("c", "a"), in("r", remove("a", "int (0 .. 9)", "0")), add("c", yes, "true")),
			"{a = 7, r = {b = true, c = 1}}", "{a = [2], c = true, r = {b = true}}", res(out(place(5, 0), "7")), res(out(place(6), "true"))},
	} {
		from := typ(c.from)
		to, _, _ := lens.Target(from, c.l)
		what := c.from + " by " + show(c.l)
		wantGo(t, what, from, c.l, false, state(c.d), state(c.made, c.res...))
		wantGo(t, what+", and back", to, c.l, true, state(c.made, c.res...), state(c.d, c.back...))
	}
}

// wrapOf adds a number, which is wrapped.
func wrapOf(a string) []api.Lens { return steps(add(a, "int (0 .. 9)", "1"), wrap(a)) }

// Of what a step's kind does not name, nothing counts.
func TestP8_2WhatDoesNotCount(t *testing.T) {
	s := api.Lens{B: "b", Type: typ("bool"), Doc: val("true"), Swaps: [][2]int{{1, 2}}, Subs: steps(remove("a", "int (0 .. 9)", "1"))}
	for kind, made := range map[int]string{api.LRename: "{b = 1}", api.LWrap: "{a = [1]}", api.LConvert: "{a = 2}"} {
		s.Kind, s.A = kind, "a"
		wantGo(t, show(s), typ("{a: int (0 .. 9)}"), steps(s), false, state("{a = 1}"), state(made))
	}
	s.Kind, s.A, s.B = api.LHead, "a", "a"
	wantGo(t, show(s), typ("{a: list (1 .. 1) of int (0 .. 9)}"), steps(s), false, state("{a = [1]}"), state("{a = 1}"))
	s.Kind = api.LAdd
	wantGo(t, show(s), typ("{}"), steps(s), false, state("{}"), state("{a = true}"))
	s.Kind = api.LRemove
	wantGo(t, show(s), typ("{a: bool}"), steps(s), false, state("{a = false}"), state("{}", out(place(0), "false")))
}

// What was left out is taken at its place alone, and put there alone.
func TestP8_2LeftOut(t *testing.T) {
	number := "int (0 .. 9)"
	x, l := typ("{d: dict (0 .. 9) of {x: bool}, r: {x: bool}}"), steps(
		add("a", number, "0"), in("r", remove("x", "bool", "false"), add("n", number, "1")), each("d", add("n", number, "2"), remove("x", "bool", "false")))
	to, _, _ := lens.Target(x, l)
	d, made := `{d = <"k": {x = true}, "l": {x = false}>, r = {x = true}}`, `{a = 0, d = <"k": {n = 2}, "l": {n = 2}>, r = {n = 1}}`
	gone := res(out(place(1, 0), "true"), out(place(2, 1), "true", "k"), out(place(2, 1), "false", "l"))
	needed := res(out(place(0), "0"), out(place(1, 1), "1"), out(place(2, 0), "2", "k"), out(place(2, 0), "2", "l"))
	wantGo(t, "of nothing", x, l, false, state(d), state(made, gone...))
	wantGo(t, "back of nothing", to, l, true, state(made), state(`{d = <"k": {x = false}, "l": {x = false}>, r = {x = false}}`, needed...))
	wantGo(t, "all", x, l, false, state(d, needed...), state(made, gone...))
	wantGo(t, "all back", to, l, true, state(made, gone...), state(d, needed...))

	other := res(out(place(0), "8"), out(place(1, 1), "7"), out(place(2, 0), "6", "k"))
	wantGo(t, "other ones", x, l, false, state(d, other...), state(`{a = 8, d = <"k": {n = 6}, "l": {n = 2}>, r = {n = 7}}`, gone...))
	wantGo(t, "other ones back", to, l, true, state(`{a = 8, d = <"k": {n = 6}, "l": {n = 2}>, r = {n = 7}}`, gone...), state(d, append(other, needed[3])...))

	stays := res(left(-1, place(0), "8"), left(6, place(0), "8"), left(6, place(2, 0), "8", "k"), out(nil, "8"), out(place(0), "0"), out(place(0), "8", "k"), out(place(0, 0), "8"),
		out(place(1), "8"), out(place(1, 1), "8", "k"), out(place(2, 0), "8"), out(place(2, 0), "8", ""), out(place(2, 0), "8", "", "k"), out(place(2, 0), "8", "k", "k"), out(place(2, 0), "8", "m"), out(place(2, 0, 0), "8", "k"),
		out(place(3), "{a = []}"), left(8, place(0), "8"), left(api.MaxInt, nil, "8"))
	wanted := slices.Delete(slices.Clone(stays), 4, 5)
	wantGo(t, "at other places", x, l, false, state(d, stays...), state(made, placed(wanted, gone)...))
	wantGo(t, "at other places, back", to, l, true, state(made, placed(wanted, gone)...), state(d, placed(wanted, needed)...))

	instead := res(out(place(1, 0), "8"), out(place(2, 1), "[true]", "k"), out(place(2, 1), "8", "l"), out(place(2, 1), "8", "m"))
	wantGo(t, "what was there", x, l, false, state(d, instead...), state(made, append(gone, instead[3])...))
	instead = res(out(place(0), "true"), out(place(1, 1), "<>"), out(place(2, 0), "99", "k"))
	wantGo(t, "what was there, back", to, l, true, state(made, placed(gone, instead)...), state(d, needed...))
}

// placed is l, and l's places, with more.
func placed(l, more []api.Res) []api.Res {
	all := slices.Concat(l, more)
	slices.SortFunc(all, apply.Less)
	return all
}

// Any number is an edge.
func TestP8_2Edges(t *testing.T) {
	l := steps(remove("a", "bool", "false"), add("b", "bool", "false"))
	for _, edge := range []int{api.MinInt, -1, 0, 1, 11, 12, 1000, api.MaxInt} {
		s := api.State{Doc: val("{a = true}"), Res: res(left(edge, place(1), "true"))}
		got, err := apply.Go(typ("{a: bool}"), l, edge, false, s)
		want(t, "there", got, api.State{Doc: val("{b = true}"), Res: res(left(edge, place(0), "true"))})
		again, errBack := apply.Go(typ("{b: bool}"), l, edge, true, got)
		want(t, "and back", again, s)
		if err != api.OK || errBack != api.OK {
			t.Errorf("edge %d: %v, %v", edge, err, errBack)
		}
	}
}

// Errors of Target, of the lens as it is done.
func TestP8_2TargetErrors(t *testing.T) {
	x, d := typ("{a: bool, o?: bool, r: {}}"), state("{a = true, r = {}}")
	full := slices.Repeat(steps(rename("a", "b"), rename("b", "a")), api.MaxSteps/2)
	deep := in("r")
	for range 8 {
		deep = in("r", deep)
	}
	for _, c := range []struct {
		l         []api.Lens
		err, back api.Errno
	}{
		{steps(rename("z", "c")), api.ErrMiss, api.ErrMiss},
		{steps(rename("a", "b")), api.OK, api.ErrMiss},
		{steps(rename("b", "a")), api.ErrMiss, api.OK},
		{steps(rename("a", "o")), api.ErrTwice, api.ErrTwice},
		{steps(add("a", "bool", "true")), api.ErrTwice, api.OK},
		{steps(remove("a", "bool", "true")), api.OK, api.ErrTwice},
		{steps(remove("a", "int (0 .. 1)", "0")), api.ErrType, api.ErrTwice},
		{steps(api.Lens{Kind: api.LRemove, A: "a", Type: typ("bool")}), api.ErrRange, api.ErrTwice},
		{steps(plunge("r", "a")), api.OK, api.ErrMiss},
		{steps(hoist("r", "a")), api.ErrMiss, api.OK},
		{steps(wrap("a")), api.OK, api.ErrType},
		{steps(head("a")), api.ErrType, api.OK},
		{steps(wrap("a"), head("a")), api.OK, api.OK},
		{steps(head("a"), wrap("a")), api.ErrType, api.ErrType},
		{steps(in("r", add("b", "bool", "true"))), api.OK, api.ErrMiss},
		{steps(in("r", remove("b", "bool", "true"))), api.ErrMiss, api.OK},
		{steps(each("r")), api.ErrType, api.ErrType},
		{steps(api.Lens{}), api.ErrArg, api.ErrArg}, {steps(rename("a", "b"), api.Lens{Kind: 11}), api.ErrArg, api.ErrArg},
		{steps(rename("a", "B")), api.ErrArg, api.ErrMiss},
		{full, api.OK, api.OK},
		{append(full, in("r")), api.ErrFull, api.ErrFull},
		{steps(deep), api.ErrDeep, api.ErrDeep},
	} {
		for back, err := range map[bool]api.Errno{false: c.err, true: c.back} {
			if got, told := apply.Go(x, c.l, edge, back, d); told != err || told != api.OK && show(got) != "{}" {
				t.Errorf("%s, back %v: %v, not %v: %s", short(show(c.l)), back, told, err, show(got))
			}
			if err != api.OK { // ahead of all else
				wantNone(t, show(c.l), x, c.l, back, d, err)
				wantNone(t, show(c.l), x, c.l, back, state("{}"), err)
				wantNone(t, show(c.l), x, c.l, back, state("{}", out(place(1), "1"), out(place(0), "1")), err)
			}
		}
	}
	for _, x := range []api.Type{{}, typ("bool"), typ("dict (0 .. 1) of {}"), {Kind: api.TRec, Lo: 1}, {Kind: api.TRec, Fields: make([]api.Field, 1)}} {
		for _, l := range [][]api.Lens{nil, steps(rename("a", "b"))} {
			wantNone(t, "of "+show(x), x, l, false, state("{}"), api.ErrArg)
			wantNone(t, "back of "+show(x), x, l, true, state("{}"), api.ErrArg)
		}
	}
}

// What is wrong of a state: ErrArg, then ErrType, then ErrRange.
func TestP8_2StateErrors(t *testing.T) {
	x, l := typ("{a: int (0 .. 9), o?: bool}"), steps(rename("o", "p"), add("b", "int (3 .. 9)", "3"))
	need := out(place(1), "10")
	bad := need
	bad.Doc = api.Doc{Kind: api.DInt, Str: "x"}
	for what, wrong := range map[string][]api.Res{
		"not rising": res(need, out(place(0), "3")), "twice": res(out(place(0), "3"), out(place(0), "3")), "a wrong document": res(bad),
		"a wrong document elsewhere": res(left(9, nil, "3"), api.Res{Edge: 10}), "too many": many(9, api.MaxRes+1), "too many needed": many(edge, api.MaxRes+1),
	} {
		wantNone(t, what, x, l, false, state("{a = 5}", wrong...), api.ErrArg)
		wantNone(t, what+", and not of the type", x, l, false, state("{}", wrong...), api.ErrArg)
		wantNone(t, what+", back", typ("{a: int (0 .. 9), b: int (3 .. 9), p?: bool}"), l, true, state("{a = 5, b = 4}", wrong...), api.ErrArg)
		wantNone(t, what+", of no steps", x, nil, false, state("{a = 5}", wrong...), api.ErrArg)
	}
	for _, d := range []string{"{}", "{a = 10}", "{a = 5, b = 3}", "{a = 5, p = true}", "{a = 5, o = 1}", "5", "[]", `<"a": 5>`} {
		wantNone(t, d, x, l, false, state(d), api.ErrType)
		wantNone(t, d, x, l, false, state(d, need), api.ErrType)
		wantNone(t, d, x, nil, false, state(d), api.ErrType)
	}
	for _, d := range []api.Doc{{}, {Kind: api.DRec, Num: 1, Keys: []string{"a"}, Kids: []api.Doc{doc.Int(5)}}, {Kind: api.DRec, Keys: []string{"a"}}, {Kind: api.DRec, Keys: []string{"a", "a"}, Kids: []api.Doc{doc.Int(5), doc.Int(5)}}} {
		wantNone(t, show(d), x, l, false, api.State{Doc: d}, api.ErrType)
	}
	for _, d := range []string{"10", "2", "true", `"x"`, "{}", "[3]", "[]"} {
		wantNone(t, d, x, l, false, state("{a = 5}", out(place(1), d)), api.ErrRange)
		wantNone(t, d, x, l, false, state("{a = 5}", left(1, nil, "[]"), out(place(0), "true"), out(place(1), d), out(place(2), "[]")), api.ErrRange)
	}
	within := typ("{d: dict (0 .. 9) of {}}")
	l = steps(each("d", add("x", "bool", "true")))
	for key, err := range map[string]api.Errno{"": api.OK, "k": api.ErrRange, "l": api.ErrRange, "m": api.OK} {
		if _, told := apply.Go(within, l, edge, false, state(`{d = <"k": {}, "l": {}>}`, out(place(0, 0), "1", key))); told != err {
			t.Errorf("below %q: %v", key, told)
		}
	}
}

// What is taken is held to the type that it is of there, whatever is done to it, or what comes, behind; and so is it going back.
func TestP8_2Range(t *testing.T) {
	number, x := "int (0 .. 9)", typ("{r: {}}")
	l := steps(add("a", number, "1"), wrap("a"), head("a"), convert("a", [2]int{1, 5}), plunge("r", "a"), hoist("r", "a"), rename("a", "b"), remove("b", number, "1"), add("c", "bool", "true"))
	for _, d := range []string{"10", "-1", "true", "{a = 1}", "[1]"} {
		wantNone(t, d, x, l, false, state("{r = {}}", out(place(0), d)), api.ErrRange)
		wantNone(t, d+", and what is right behind", x, l, false, state("{r = {}}", out(place(0), d), out(place(8), "true")), api.ErrRange)
		wantNone(t, d+" back", typ("{c: bool, r: {}}"), l, true, state("{c = true, r = {}}", out(place(7), d)), api.ErrRange)
	}
	wantGo(t, "in the range", x, l, false, state("{r = {}}", out(place(0), "5")), state("{c = true, r = {}}", out(place(7), "1")))
	wantGo(t, "in the range, back", typ("{c: bool, r: {}}"), l, true, state("{c = false, r = {}}", out(place(7), "5")), state("{r = {}}", out(place(0), "1"), out(place(8), "false")))
	wantGo(t, "put, not taken", typ("{c: bool, r: {}}"), l, true, state("{c = false, r = {}}", out(place(0), "[]"), out(place(8), "[]")), state("{r = {}}", out(place(0), "5"), out(place(8), "false")))
}
