package apply_test

import (
	"testing"

	"cabochon/api"
	"cabochon/apply"
	"cabochon/lens"
)

func TestP8_3Needs(t *testing.T) {
	number := "int (0 .. 9)"
	for _, c := range []struct {
		from, d     string
		l           []api.Lens
		there, back []api.Res
	}{
		{"{}", "{}", nil, nil, nil},
		{"{a: bool}", "{a = true}", steps(rename("a", "b"), wrap("b")), nil, nil},
		{"{}", "{}", steps(add("c", "bool", "false")), res(out(place(0), "false")), nil},
		{"{c: bool}", "{c = true}", steps(remove("c", "bool", "false")), nil, res(out(place(0), "false"))},
		{"{a: bool}", "{a = true}", steps(add("c", number, "5"), remove("a", "bool", "false"), rename("c", "a")), res(out(place(0), "5")), res(out(place(1), "false"))},
		{"{}", "{}", steps(add("c", number, "5"), add("b", number, "4"), wrap("b"), add("a", number, "3")), res(out(place(0), "5"), out(place(1), "4"), out(place(3), "3")), nil},
		{"{a: int (0 .. 9), b: int (0 .. 9)}", "{a = 1, b = 2}", steps(remove("b", number, "5"), remove("a", number, "4")), nil, res(out(place(0), "5"), out(place(1), "4"))},
		{"{r: {s: {x: bool}}}", "{r = {s = {x = true}}}", steps(add("a", number, "1"), in("r", add("b", number, "2"), in("s", remove("x", "bool", "false"), add("c", number, "3")), add("d", number, "4"))),
			res(out(place(0), "1"), out(place(1, 0), "2"), out(place(1, 1, 1), "3"), out(place(1, 2), "4")), res(out(place(1, 1, 0), "false"))},
		{"{d: dict (0 .. 9) of {}}", "{d = <>}", steps(each("d", add("x", number, "1"))), nil, nil},
		{"{d: dict (0 .. 9) of {}}", `{d = <"k": {}, "l": {}>}`, steps(each("d", add("y", number, "2"), add("x", number, "1")), add("a", number, "3")),
			res(out(place(0, 0), "2", "k"), out(place(0, 0), "2", "l"), out(place(0, 1), "1", "k"), out(place(0, 1), "1", "l"), out(place(1), "3")), nil},
		{"{d: dict (0 .. 9) of {x: bool, y: bool}}", `{d = <"": {x = true, y = true}, "l": {x = true, y = true}>}`, steps(each("d", remove("y", "bool", "true"), remove("x", "bool", "false"))),
			nil, res(out(place(0, 0), "true", ""), out(place(0, 0), "true", "l"), out(place(0, 1), "false", ""), out(place(0, 1), "false", "l"))},
		{"{d: dict (0 .. 9) of {e: dict (0 .. 9) of {}}}", `{d = <"a": {e = <"b": {}, "c": {}>}, "b": {e = <"": {}>}, "c": {e = <>}>}`, steps(each("d", each("e", add("x", number, "1")), add("x", number, "2"))),
			res(out(place(0, 0, 0), "1", "a", "b"), out(place(0, 0, 0), "1", "a", "c"), out(place(0, 0, 0), "1", "b", ""), out(place(0, 1), "2", "a"), out(place(0, 1), "2", "b"), out(place(0, 1), "2", "c")), nil},
		{"{}", "{}", steps(add("a", "bool", "true"), remove("a", "bool", "false")), res(out(place(0), "true")), res(out(place(1), "false"))},
	} {
		from, d := typ(c.from), val(c.d)
		to, _, _ := lens.Target(from, c.l)
		made, err := apply.Go(from, c.l, edge, false, api.State{Doc: d})
		if err != api.OK {
			t.Errorf("%s by %s: %v", c.d, show(c.l), err)
		}
		want(t, c.d+" by "+show(c.l), apply.Needs(from, c.l, edge, false, d), c.there)
		want(t, c.d+" back by "+show(c.l), apply.Needs(to, c.l, edge, true, made.Doc), c.back)
	}
}

func TestP8_3NoneByErrors(t *testing.T) {
	x, l := typ("{a: bool}"), steps(add("b", "bool", "true"))
	gone := steps(add("z", "bool", "true"), each("d", remove("a", "bool", "true"), remove("b", "bool", "true")))
	for what, needs := range map[string][]api.Res{
		"of the type behind":           apply.Needs(x, l, edge, false, val("{a = true, b = true}")),
		"of no type":                   apply.Needs(api.Type{}, l, edge, false, val("{a = true}")),
		"of another type":              apply.Needs(x, l, edge, false, val("{a = 1}")),
		"of nothing":                   apply.Needs(x, l, edge, false, api.Doc{}),
		"back of what is not there":    apply.Needs(x, l, edge, true, val("{a = true}")),
		"of a step that may not be":    apply.Needs(x, append(l, wrap("z")), edge, false, val("{a = true}")),
		"back of a type that is other": apply.Needs(x, append(l, remove("c", "bool", "true")), edge, true, val("{a = true}")),
		"too many parts":               apply.Needs(entries("{}"), steps(each("d", l...)), edge, false, filled(256, "{}")),
		"too much left out":            apply.Needs(entries("{a: bool, b: bool}"), gone, edge, false, filled(129, "{a = true, b = true}")),
	} {
		want(t, what, needs, res())
	}
	want(t, "just as much left out", apply.Needs(entries("{a: bool, b: bool}"), gone, edge, false, filled(128, "{a = true, b = true}")), res(out(place(0), "true")))
}

// More may be needed than may be left out.
func TestP8_3ManyNeeds(t *testing.T) {
	x, d := entries("{x: bool}"), filled(170, "{x = false}")
	l := steps(each("d", remove("x", "bool", "true"), add("y", "bool", "true"), add("z", "bool", "true")))
	want(t, "340 of them", apply.Needs(x, l, edge, false, d), atEach(170, "true", place(0, 1), place(0, 2)))
	made, err := apply.Go(x, l, edge, false, api.State{Doc: d})
	if err != api.OK {
		t.Error(err)
	}
	to, _, _ := lens.Target(x, l)
	want(t, "back", apply.Needs(to, l, edge, true, made.Doc), res()) // what they took would be left out
}
