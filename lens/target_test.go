package lens_test

import (
	"slices"
	"strings"
	"testing"

	"cabochon/api"
	"cabochon/lens"
)

// wantMade asks for a target.
func wantMade(t *testing.T, what string, x api.Type, l []api.Lens, made api.Type) {
	t.Helper()
	got, at, err := lens.Target(x, l)
	if at != len(l) || err != api.OK {
		t.Errorf("%s: %v at %d", what, err, at)
	}
	want(t, what, got, made)
}

// wantNone asks for an error, at the place of a step.
func wantNone(t *testing.T, what string, x api.Type, l []api.Lens, place int, wanted api.Errno) {
	t.Helper()
	got, at, err := lens.Target(x, l)
	if at != place || err != wanted {
		t.Errorf("%s: %v at %d, not %v at %d", what, err, at, wanted, place)
	}
	want(t, what, got, api.Type{})
}

var long = strings.Repeat("l", api.MaxName)

func TestP7_2Steps(t *testing.T) {
	for _, c := range []struct {
		from string
		s    api.Lens
		to   string
	}{
		{"{a: int (0 .. 9)}", rename("a", "b"), "{b: int (0 .. 9)}"},
		{"{a: bool, b: int (0 .. 9), c: bool}", rename("b", "z"), "{a: bool, c: bool, z: int (0 .. 9)}"},
		{"{b: bool, c: int (0 .. 9)}", rename("c", "a"), "{a: int (0 .. 9), b: bool}"},
		{"{a: int (0 .. 9), b: bool}", rename("a", "a0"), "{a0: int (0 .. 9), b: bool}"},
		{"{a?: int (0 .. 9), b: bool}", rename("a", "c"), "{b: bool, c?: int (0 .. 9)}"},
		{"{r: {a?: bool}}", rename("r", "a"), "{a: {a?: bool}}"},
		{"{d?: dict (1 .. 2) of {x: bool}}", rename("d", long), "{" + long + "?: dict (1 .. 2) of {x: bool}}"},

		{"{}", add("a", "bool", "true"), "{a: bool}"},
		{"{b?: bool}", add("a", "bool", "false"), "{a: bool, b?: bool}"},
		{"{a: bool, c: bool}", add("b", "int (3 .. 9)", "3"), "{a: bool, b: int (3 .. 9), c: bool}"},
		{"{a: bool}", add("b", "int (-9 .. -3)", "-3"), "{a: bool, b: int (-9 .. -3)}"},
		{"{a: bool}", add(long, "bytes (0 .. 3)", `"abc"`), "{a: bool, " + long + ": bytes (0 .. 3)}"},
		{"{a: {x: bool}}", add("x", "bytes (0 .. 256)", `""`), "{a: {x: bool}, x: bytes (0 .. 256)}"},
		{"{}", add("a", `enum ("", "x", "y")`, `"y"`), `{a: enum ("", "x", "y")}`},
		{"{}", add("a", "int (-9223372036854775808 .. 9223372036854775807)", "9223372036854775807"), "{a: int (-9223372036854775808 .. 9223372036854775807)}"},

		{"{a: bool}", remove("a", "bool", "true"), "{}"},
		{"{a: bool, b: int (3 .. 9), c: bool}", remove("b", "int (3 .. 9)", "9"), "{a: bool, c: bool}"},
		{"{a: bytes (1 .. 3), b?: bool}", remove("a", "bytes (1 .. 3)", `"x"`), "{b?: bool}"},
		{`{a: bool, b: enum ("x", "y")}`, remove("b", `enum ("x", "y")`, `"x"`), "{a: bool}"},

		{"{r: {x: bool}}", hoist("r", "x"), "{r: {}, x: bool}"},
		{"{r: {x: bool, y?: bool}, z: bool}", hoist("r", "x"), "{r: {y?: bool}, x: bool, z: bool}"},
		{"{r: {a: {x: bool}, y: bool}}", hoist("r", "a"), "{a: {x: bool}, r: {y: bool}}"},
		{"{r: {l: list (0 .. 2) of {r: bool}, r: bool}}", hoist("r", "l"), "{l: list (0 .. 2) of {r: bool}, r: {r: bool}}"},

		{"{r: {}, x: bool}", plunge("r", "x"), "{r: {x: bool}}"},
		{"{a: int (0 .. 1), r: {b?: bool}, x: bool}", plunge("r", "a"), "{r: {a: int (0 .. 1), b?: bool}, x: bool}"},
		{"{a: {x: bool}, r: {x: bool}}", plunge("r", "a"), "{r: {a: {x: bool}, x: bool}}"},
		{"{a: {x: bool}, r: {x: bool}}", plunge("a", "r"), "{a: {r: {x: bool}, x: bool}}"},
		{"{a: {a: bool}, d: dict (1 .. 2) of bool}", plunge("a", "d"), "{a: {a: bool, d: dict (1 .. 2) of bool}}"},

		{"{a: bool, b: bool}", wrap("a"), "{a: list (1 .. 1) of bool, b: bool}"},
		{"{a: int (3 .. 9)}", wrap("a"), "{a: list (1 .. 1) of int (3 .. 9)}"},
		{"{a: bytes (3 .. 9)}", wrap("a"), "{a: list (1 .. 1) of bytes (3 .. 9)}"},
		{`{a?: bool, b: enum ("x")}`, wrap("b"), `{a?: bool, b: list (1 .. 1) of enum ("x")}`},

		{"{a: list (1 .. 1) of bool, b: list (1 .. 1) of bool}", head("a"), "{a: bool, b: list (1 .. 1) of bool}"},
		{"{a: list (1 .. 1) of int (3 .. 9)}", head("a"), "{a: int (3 .. 9)}"},
		{"{a: list (1 .. 1) of bytes (3 .. 9)}", head("a"), "{a: bytes (3 .. 9)}"},
		{`{a?: bool, b: list (1 .. 1) of enum ("x")}`, head("b"), `{a?: bool, b: enum ("x")}`},

		{"{a: int (0 .. 1)}", convert("a", [2]int{0, 1}), "{a: int (0 .. 1)}"},
		{"{a: int (-3 .. 9), b: bool}", convert("a", [2]int{9, -3}, [2]int{0, 8}), "{a: int (-3 .. 9), b: bool}"},
		{"{a: int (0 .. 63)}", convert("a", pairs(api.MaxSwaps)...), "{a: int (0 .. 63)}"},
		{"{a: int (-9223372036854775808 .. 9223372036854775807)}", convert("a", [2]int{api.MaxInt, api.MinInt}), "{a: int (-9223372036854775808 .. 9223372036854775807)}"},

		{"{r: {x: bool}, x: bool}", in("r"), "{r: {x: bool}, x: bool}"},
		{"{r: {x: bool}, x: bool}", in("r", rename("x", "y")), "{r: {y: bool}, x: bool}"},
		{"{r: {o?: bool}, s: {}}", in("r", rename("o", "p"), add("o", "bool", "true"), wrap("o")), "{r: {o: list (1 .. 1) of bool, p?: bool}, s: {}}"},
		{"{r: {r: {x: bool}}}", in("r", hoist("r", "x"), in("r", add("y", "bool", "true"))), "{r: {r: {y: bool}, x: bool}}"},
		{"{r: {d: dict (0 .. 2) of {x: bool}}}", in("r", each("d", remove("x", "bool", "true"))), "{r: {d: dict (0 .. 2) of {}}}"},

		{"{d: dict (0 .. 2) of {x: bool}}", each("d"), "{d: dict (0 .. 2) of {x: bool}}"},
		{"{d: dict (3 .. 4) of {x: bool}, x: bool}", each("d", rename("x", "y"), add("x", "bool", "true")), "{d: dict (3 .. 4) of {x: bool, y: bool}, x: bool}"},
		{"{d: dict (0 .. 2) of {d: dict (1 .. 1) of {x?: bool}}}", each("d", each("d", rename("x", "y"))), "{d: dict (0 .. 2) of {d: dict (1 .. 1) of {y?: bool}}}"},
		{"{d: dict (0 .. 2) of {r: {x: bool}}}", each("d", in("r", wrap("x"))), "{d: dict (0 .. 2) of {r: {x: list (1 .. 1) of bool}}}"},
	} {
		wantMade(t, c.from+" by "+show(c.s), typ(c.from), steps(c.s), typ(c.to))
	}
}

// some is what most errors are told of: o and q are optional, all others are not.
const some = `{a: int (3 .. 9), b: bool, d: dict (0 .. 9) of {o?: bool, x: bool}, e: dict (0 .. 9) of bool, f: dict (0 .. 9) of list (1 .. 1) of bool,
	g: list (1 .. 1) of bool, h: list (0 .. 1) of bool, i: list (1 .. 2) of bool, j: list (1 .. 1) of {x: bool}, k: list (2 .. 2) of bool, m: list (1 .. 1) of list (1 .. 1) of bool,
	o?: bool, q?: {x: bool}, r: {a: bool, o?: bool, r: {}, x: bool}, s: bytes (1 .. 3), t: enum ("x", "y"), u?: int (3 .. 9), v?: list (1 .. 1) of bool, w?: dict (0 .. 9) of {x: bool}}`

// Of errors of one step the ones told first stand first; most of them that come behind would be told, too.
func TestP7_2Errors(t *testing.T) {
	enum := api.Type{Kind: api.TEnum, Names: []string{"x", "x"}}
	for _, c := range []struct {
		s   api.Lens
		err api.Errno
	}{
		{rename("z", "c"), api.ErrMiss}, {rename("", "c"), api.ErrMiss}, {rename("A", "B"), api.ErrMiss}, {rename("x", "a"), api.ErrMiss}, {rename("aa", "c"), api.ErrMiss},
		{rename("a", ""), api.ErrArg}, {rename("a", "C"), api.ErrArg}, {rename("a", "0"), api.ErrArg}, {rename("a", "c-"), api.ErrArg}, {rename("o", "C"), api.ErrArg}, {rename("a", long+"l"), api.ErrArg},
		{rename("a", "b"), api.ErrTwice}, {rename("a", "a"), api.ErrTwice}, {rename("o", "o"), api.ErrTwice}, {rename("a", "q"), api.ErrTwice}, {rename("o", "a"), api.ErrTwice},

		{add("", "bool", "true"), api.ErrArg}, {add("A", "{}", "{}"), api.ErrArg}, {add("_", "bool", "3"), api.ErrArg}, {add(long+"l", "bool", "true"), api.ErrArg},
		{add("a", "bool", "true"), api.ErrTwice}, {add("a", "{}", "{}"), api.ErrTwice}, {add("o", "bool", "3"), api.ErrTwice}, {add("r", "bool", "true"), api.ErrTwice},
		{add("z", "{}", "{}"), api.ErrType}, {add("z", "{}", "3"), api.ErrType}, {add("z", "dict (0 .. 1) of bool", "<>"), api.ErrType}, {add("z", "list (1 .. 1) of bool", "[true]"), api.ErrType},
		{api.Lens{Kind: api.LAdd, A: "z", Doc: val("true")}, api.ErrType}, {api.Lens{Kind: api.LAdd, A: "z", Type: enum, Doc: val(`"x"`)}, api.ErrType},
		{api.Lens{Kind: api.LAdd, A: "z", Type: api.Type{Kind: api.TInt, Lo: 1}, Doc: val("1")}, api.ErrType}, {api.Lens{Kind: api.LAdd, A: "z", Type: api.Type{Kind: api.TBool, Hi: 1}, Doc: val("true")}, api.ErrType},
		{add("z", "bool", "1"), api.ErrRange}, {add("z", "int (3 .. 9)", "2"), api.ErrRange}, {add("z", "int (3 .. 9)", "10"), api.ErrRange}, {add("z", "int (0 .. 1)", "true"), api.ErrRange},
		{add("z", "bytes (1 .. 2)", `""`), api.ErrRange}, {add("z", "bytes (1 .. 2)", `"xyz"`), api.ErrRange}, {add("z", `enum ("x")`, `"y"`), api.ErrRange}, {add("z", "bool", "{}"), api.ErrRange},
		{api.Lens{Kind: api.LAdd, A: "z", Type: typ("bool")}, api.ErrRange}, {api.Lens{Kind: api.LAdd, A: "z", Type: typ("bool"), Doc: api.Doc{Kind: api.DBool, Num: 2}}, api.ErrRange},

		{remove("z", "bool", "true"), api.ErrMiss}, {remove("", "{}", "{}"), api.ErrMiss}, {remove("x", "bool", "true"), api.ErrMiss},
		{remove("o", "bool", "true"), api.ErrType}, {remove("u", "int (3 .. 9)", "2"), api.ErrType},
		{remove("a", "int (3 .. 8)", "3"), api.ErrType}, {remove("a", "int (2 .. 9)", "10"), api.ErrType}, {remove("a", "bool", "true"), api.ErrType}, {remove("t", `enum ("x")`, `"x"`), api.ErrType}, {remove("s", "bytes (1 .. 4)", `"x"`), api.ErrType},
		{remove("r", "{a: bool, o?: bool, r: {}, x: bool}", "{a = true, r = {}, x = true}"), api.ErrType}, {remove("e", "dict (0 .. 9) of bool", "<>"), api.ErrType}, {remove("g", "list (1 .. 1) of bool", "[true]"), api.ErrType},
		{api.Lens{Kind: api.LRemove, A: "a", Doc: val("3")}, api.ErrType}, {api.Lens{Kind: api.LRemove, A: "a", Type: api.Type{Kind: api.TInt, Lo: 9, Hi: 3}, Doc: val("3")}, api.ErrType},
		{remove("a", "int (3 .. 9)", "2"), api.ErrRange}, {remove("a", "int (3 .. 9)", "10"), api.ErrRange}, {remove("a", "int (3 .. 9)", `"3"`), api.ErrRange}, {remove("b", "bool", "0"), api.ErrRange},
		{remove("t", `enum ("x", "y")`, `"z"`), api.ErrRange}, {remove("s", "bytes (1 .. 3)", `""`), api.ErrRange}, {api.Lens{Kind: api.LRemove, A: "b", Type: typ("bool")}, api.ErrRange},

		{hoist("z", "x"), api.ErrMiss}, {hoist("", ""), api.ErrMiss}, {hoist("x", "r"), api.ErrMiss},
		{hoist("q", "x"), api.ErrType}, {hoist("q", "z"), api.ErrType}, {hoist("o", "x"), api.ErrType},
		{hoist("a", "x"), api.ErrType}, {hoist("b", "b"), api.ErrType}, {hoist("d", "x"), api.ErrType}, {hoist("j", "x"), api.ErrType}, {hoist("j", "0"), api.ErrType}, {hoist("s", "z"), api.ErrType},
		{hoist("r", "z"), api.ErrMiss}, {hoist("r", "b"), api.ErrMiss}, {hoist("r", ""), api.ErrMiss},
		{hoist("r", "o"), api.ErrType},
		{hoist("r", "a"), api.ErrTwice}, {hoist("r", "r"), api.ErrTwice},

		{plunge("z", "b"), api.ErrMiss}, {plunge("z", "z"), api.ErrMiss}, {plunge("x", "o"), api.ErrMiss},
		{plunge("q", "z"), api.ErrType}, {plunge("q", "b"), api.ErrType}, {plunge("q", "x"), api.ErrType}, {plunge("o", "o"), api.ErrType},
		{plunge("r", "z"), api.ErrMiss}, {plunge("r", "x"), api.ErrMiss}, {plunge("a", "z"), api.ErrMiss}, {plunge("r", ""), api.ErrMiss},
		{plunge("r", "o"), api.ErrType}, {plunge("r", "q"), api.ErrType}, {plunge("a", "b"), api.ErrType}, {plunge("d", "b"), api.ErrType}, {plunge("j", "b"), api.ErrType}, {plunge("r", "r"), api.ErrType}, {plunge("a", "a"), api.ErrType},
		{plunge("r", "a"), api.ErrTwice},

		{wrap("z"), api.ErrMiss}, {wrap(""), api.ErrMiss}, {wrap("o"), api.ErrType}, {wrap("q"), api.ErrType}, {wrap("r"), api.ErrType}, {wrap("d"), api.ErrType}, {wrap("g"), api.ErrType},
		{head("z"), api.ErrMiss}, {head("x"), api.ErrMiss}, {head("v"), api.ErrType}, {head("o"), api.ErrType}, {head("a"), api.ErrType}, {head("e"), api.ErrType}, {head("f"), api.ErrType}, {head("r"), api.ErrType},
		{head("h"), api.ErrType}, {head("i"), api.ErrType}, {head("k"), api.ErrType}, {head("j"), api.ErrType}, {head("m"), api.ErrType},

		{convert("z"), api.ErrMiss}, {convert("z", [2]int{3, 4}), api.ErrMiss}, {convert("u"), api.ErrType}, {convert("u", [2]int{3, 4}), api.ErrType}, {convert("b"), api.ErrType}, {convert("b", [2]int{0, 1}), api.ErrType}, {convert("s", [2]int{1, 1}), api.ErrType},
		{convert("a"), api.ErrArg}, {convert("a", pairs(api.MaxSwaps+1)...), api.ErrArg}, {convert("a", [2]int{3, 3}), api.ErrArg}, {convert("a", [2]int{3, 4}, [2]int{3, 5}), api.ErrArg}, {convert("a", [2]int{3, 4}, [2]int{4, 5}), api.ErrArg},
		{convert("a", [2]int{3, 4}, [2]int{5, 6}, [2]int{7, 4}), api.ErrArg}, {convert("a", [2]int{3, 4}, [2]int{3, 4}), api.ErrArg}, {convert("a", [2]int{3, 4}, [2]int{4, 3}), api.ErrArg}, {convert("a", [2]int{1, 2}, [2]int{3, 1}), api.ErrArg}, {convert("a", slices.Repeat([][2]int{{3, 4}}, 40)...), api.ErrArg},
		{convert("a", [2]int{2, 3}), api.ErrRange}, {convert("a", [2]int{3, 10}), api.ErrRange}, {convert("a", [2]int{9, 3}, [2]int{5, 2}), api.ErrRange}, {convert("a", pairs(api.MaxSwaps)...), api.ErrRange}, {convert("a", [2]int{api.MinInt, 3}), api.ErrRange}, {convert("a", [2]int{3, api.MaxInt}), api.ErrRange},

		{in("z"), api.ErrMiss}, {in("z", wrap("z")), api.ErrMiss}, {in("q", rename("x", "y")), api.ErrType}, {in("q"), api.ErrType}, {in("a"), api.ErrType}, {in("a", api.Lens{}), api.ErrType}, {in("d", rename("x", "y")), api.ErrType}, {in("j", wrap("x")), api.ErrType},
		{in("r", wrap("z")), api.ErrMiss}, {in("r", wrap("b")), api.ErrMiss}, {in("r", wrap("o")), api.ErrType}, {in("r", rename("x", "a")), api.ErrTwice}, {in("r", rename("x", "X")), api.ErrArg}, {in("r", add("z", "bool", "3")), api.ErrRange},
		{in("r", api.Lens{}), api.ErrArg}, {in("r", rename("x", "y"), wrap("x"), api.Lens{}), api.ErrMiss}, {in("r", in("r", wrap("z")), rename("x", "X")), api.ErrMiss}, {in("r", in("x", wrap("z"))), api.ErrType},

		{each("z"), api.ErrMiss}, {each("z", wrap("z")), api.ErrMiss}, {each("w", rename("x", "y")), api.ErrType}, {each("w"), api.ErrType}, {each("a"), api.ErrType}, {each("r", rename("x", "y")), api.ErrType}, {each("r"), api.ErrType}, {each("j", rename("x", "y")), api.ErrType}, {each("j"), api.ErrType},
		{each("e"), api.ErrType}, {each("e", api.Lens{}), api.ErrType}, {each("f"), api.ErrType}, {each("f", head("0")), api.ErrType},
		{each("d", wrap("z")), api.ErrMiss}, {each("d", wrap("o")), api.ErrType}, {each("d", rename("x", "o")), api.ErrTwice}, {each("d", add("z", "bool", "3")), api.ErrRange}, {each("d", api.Lens{}), api.ErrArg}, {each("d", rename("x", "X")), api.ErrArg},

		{api.Lens{}, api.ErrArg}, {api.Lens{A: "z"}, api.ErrArg}, {api.Lens{Kind: 11, A: "o"}, api.ErrArg}, {api.Lens{Kind: -1, A: "a", B: "c"}, api.ErrArg}, {api.Lens{Kind: api.MaxInt}, api.ErrArg}, {api.Lens{Kind: api.MinInt, Type: typ("bool"), Doc: val("true")}, api.ErrArg},
	} {
		wantNone(t, show(c.s), typ(some), steps(c.s), 0, c.err)
	}
}

// Steps come one behind the other: each finds what the one ahead of it made.
func TestP7_2Lenses(t *testing.T) {
	x := typ("{a: int (0 .. 9), r: {x: bool}}")
	wantMade(t, "none", x, nil, x)
	wantMade(t, "of no fields", typ("{}"), nil, typ("{}"))
	wantMade(t, "the document's example", typ("{a: int (0 .. 9)}"), steps(rename("a", "b"), add("c", "bool", "false")), typ("{b: int (0 .. 9), c: bool}"))
	wantMade(t, "one by one", x, steps(rename("a", "b"), wrap("b"), plunge("r", "b"), in("r", head("b"), rename("x", "a")), hoist("r", "b"), rename("b", "x")), typ("{r: {a: bool}, x: int (0 .. 9)}"))
	wantMade(t, "names changed round", typ("{a: bool, b: {}}"), steps(rename("a", "c"), rename("b", "a"), rename("c", "b")), typ("{a: {}, b: bool}"))
	wantMade(t, "added and removed", x, steps(add("b", "bool", "true"), remove("b", "bool", "false")), x)
	wantMade(t, "removed and added", x, steps(remove("a", "int (0 .. 9)", "1"), add("a", "bool", "false")), typ("{a: bool, r: {x: bool}}"))
}

func TestP7_2Places(t *testing.T) {
	x := typ("{a: int (0 .. 9), d: dict (0 .. 1) of {x: bool}, r: {x: bool}}")
	for i := range 6 {
		l := slices.Repeat(steps(in("r", rename("x", "y"), rename("y", "x"))), 5)
		wantMade(t, "right", x, l, x)
		wantNone(t, "of no kind", x, slices.Insert(slices.Clone(l), i, api.Lens{}), i, api.ErrArg)
		wantNone(t, "wrong", x, slices.Insert(slices.Clone(l), i, wrap("r")), i, api.ErrType)
		wantNone(t, "wrong within", x, slices.Insert(slices.Clone(l), i, in("r", rename("x", "z"), wrap("z"), rename("x", "y"))), i, api.ErrMiss)
		wantNone(t, "wrong within each", x, slices.Insert(slices.Clone(l), i, each("d", rename("x", "z"), in("z"))), i, api.ErrType)
		wantNone(t, "two wrong ones", x, slices.Insert(slices.Clone(l), i, wrap("z"), api.Lens{}), i, api.ErrMiss)
	}
}

func TestP7_2NoRecord(t *testing.T) {
	wrong := typ("{b: bool, c: int (0 .. 1)}")
	wrong.Fields[0], wrong.Fields[1] = wrong.Fields[1], wrong.Fields[0]
	for _, x := range []api.Type{
		{}, typ("bool"), typ("int (0 .. 1)"), typ("bytes (0 .. 1)"), typ(`enum ("a")`), typ("dict (0 .. 1) of {}"), typ("list (1 .. 1) of {}"),
		{Kind: -1}, {Kind: 8}, {Kind: api.TRec, Hi: 1}, {Kind: api.TRec, Names: []string{"a"}}, {Kind: api.TRec, Of: []api.Type{{Kind: api.TBool}}}, {Fields: typ("{a: bool}").Fields},
		wrong, wide(api.MaxFields + 1), wide(0, field("A", typ("bool"))), wide(0, field("x", api.Type{Kind: api.TInt, Lo: 1})), wide(0, field("x", chain(api.MaxDepth))), wide(0, field("x", chain(1<<16))), parted(api.MaxTypes + 1),
	} {
		for _, l := range [][]api.Lens{nil, steps(wrap("b")), steps(api.Lens{}), make([]api.Lens, api.MaxSteps+1), steps(nested(8, wrap("b")))} {
			wantNone(t, short(show(x)), x, l, 0, api.ErrArg)
		}
	}
	wantMade(t, "at the limits", parted(api.MaxTypes), nil, parted(api.MaxTypes))
	wantMade(t, "as deep as may be", wide(0, field("x", chain(api.MaxDepth-1))), nil, wide(0, field("x", chain(api.MaxDepth-1))))
}

func TestP7_2Bounds(t *testing.T) {
	x := typ("{a: bool, r: {a: bool, r: {a: bool, r: {a: bool, r: {a: bool, r: {a: bool, r: {a: bool, r: {a: bool, r: {}}}}}}}}}")
	swap := steps(convert("n", [2]int{0, 1}))
	n := wide(0, field("n", typ("int (0 .. 1)")), field("r", wide(0, field("n", typ("int (0 .. 1)")))))
	subbed := rename("n", "m")
	subbed.Subs = slices.Repeat(swap, api.MaxSteps-1)
	wantMade(t, "as many steps as may be", n, slices.Repeat(swap, api.MaxSteps), n)
	wantNone(t, "one more", n, slices.Repeat(swap, api.MaxSteps+1), 0, api.ErrFull)
	wantMade(t, "as many, within", n, steps(in("r", slices.Repeat(swap, api.MaxSteps-1)...)), n)
	wantNone(t, "one more within", n, steps(in("r", slices.Repeat(swap, api.MaxSteps)...)), 0, api.ErrFull)
	wantNone(t, "one more beside", n, steps(in("r", slices.Repeat(swap, api.MaxSteps-1)...), swap[0]), 0, api.ErrFull)
	wantNone(t, "one more in some", n, steps(in("r", slices.Repeat(swap, 31)...), in("r", slices.Repeat(swap, 32)...)), 0, api.ErrFull)
	wantMade(t, "as many, where none counts", n, steps(subbed), wide(0, field("m", n.Fields[0].Type), n.Fields[1]))
	wantNone(t, "one more where none counts", n, steps(subbed, rename("m", "n")), 0, api.ErrFull)
	wantNone(t, "too many, wrong and too deep", n, append(make([]api.Lens, api.MaxSteps), nested(8, wrap("z"))), 0, api.ErrFull)

	rest := steps(add("b", "bool", "true"), remove("b", "bool", "true"))
	wantMade(t, "as deep as may be", x, append(steps(nested(7, rest[0])), nested(7, rest[1])), x)
	wantNone(t, "deeper", x, append(rest, nested(8, add("b", "bool", "true"))), 0, api.ErrDeep)
	wantNone(t, "deeper, and wrong", x, steps(api.Lens{}, nested(8, api.Lens{})), 0, api.ErrDeep)
	subbed = rename("a", "b")
	subbed.Subs = steps(nested(6, wrap("z")))
	wantMade(t, "as deep, where none counts", x, steps(subbed, rename("b", "a")), x)
	subbed.Subs = steps(nested(7, wrap("z")))
	wantNone(t, "deeper where none counts", x, steps(subbed, rename("b", "a")), 0, api.ErrDeep)
	wantNone(t, "of no kind, and deeper", x, steps(api.Lens{Subs: subbed.Subs}), 0, api.ErrDeep)
}

// deepMap is a dictionary's record, so many of them within one another, with a bool b in the last.
func deepMap(depth int) api.Type {
	t := typ("{b: bool}")
	for range depth {
		t = wide(0, field("d", api.Type{Kind: api.TDict, Hi: 1, Of: []api.Type{t}}))
	}
	return t
}

func eachOf(depth int, l ...api.Lens) []api.Lens {
	for range depth {
		l = steps(each("d", l...))
	}
	return l
}

func TestP7_2Full(t *testing.T) {
	bool1, yes := typ("bool"), add("z", "bool", "true")
	x := field("x", bool1)
	wantMade(t, "a field more", wide(api.MaxFields-1), steps(yes), wide(api.MaxFields-1, field("z", bool1)))
	wantNone(t, "a field too many", wide(api.MaxFields), steps(yes), 0, api.ErrFull)
	wantMade(t, "a part more", parted(api.MaxTypes-1), steps(yes), with(parted(api.MaxTypes-1), field("z", bool1)))
	wantNone(t, "a part too many", parted(api.MaxTypes), steps(yes), 0, api.ErrFull)

	wantMade(t, "hoisted to as many", wide(api.MaxFields-2, field("r", wide(0, x))), steps(hoist("r", "x")), wide(api.MaxFields-2, field("r", wide(0)), x))
	wantNone(t, "hoisted to one more", wide(api.MaxFields-1, field("r", wide(0, x))), steps(hoist("r", "x")), 0, api.ErrFull)
	wantMade(t, "plunged to as many", wide(0, field("r", wide(api.MaxFields-1)), x), steps(plunge("r", "x")), wide(0, field("r", wide(api.MaxFields-1, x))))
	wantNone(t, "plunged to one more", wide(0, field("r", wide(api.MaxFields)), x), steps(plunge("r", "x")), 0, api.ErrFull)
	wantMade(t, "plunged as deep", wide(0, field("r", wide(0)), field("x", chain(10))), steps(plunge("r", "x")), wide(0, field("r", wide(0, field("x", chain(10))))))
	wantNone(t, "plunged deeper", wide(0, field("r", wide(0)), field("x", chain(11))), steps(plunge("r", "x")), 0, api.ErrFull)
	wantMade(t, "plunged of all parts", with(parted(api.MaxTypes-1), x), steps(plunge("r", "x")), inR(parted(api.MaxTypes-1), x))

	some := with(parted(api.MaxTypes-1), x)
	wrapped := with(parted(api.MaxTypes-2), field("x", typ("list (1 .. 1) of bool")))
	wantMade(t, "wrapped", with(parted(api.MaxTypes-2), x), steps(wrap("x")), wrapped)
	wantNone(t, "wrapped to one more", some, steps(wrap("x")), 0, api.ErrFull)
	wantMade(t, "unwrapped", wrapped, steps(head("x")), with(parted(api.MaxTypes-2), x))
	wantMade(t, "wrapped as deep", deepMap(4), eachOf(4, wrap("b")), wrappedMap(4))
	wantNone(t, "wrapped deeper", deepMap(5), eachOf(5, wrap("b")), 0, api.ErrFull)

	wantMade(t, "renamed", some, steps(rename("x", "z")), with(parted(api.MaxTypes-1), field("z", bool1)))
	wantMade(t, "renamed of all fields", wide(api.MaxFields-1, x), steps(rename("x", "z")), wide(api.MaxFields-1, field("z", bool1)))
	wantMade(t, "removed", some, steps(remove("x", "bool", "true")), parted(api.MaxTypes-1))
}

// with is the record t with a field more, behind all others.
func with(t api.Type, f api.Field) api.Type {
	t.Fields = append(slices.Clone(t.Fields), f)
	return t
}

// inR is t with a field more in its record r, behind all others.
func inR(t api.Type, f api.Field) api.Type {
	t.Fields = slices.Clone(t.Fields)
	i := slices.IndexFunc(t.Fields, func(f api.Field) bool { return f.Name == "r" })
	t.Fields[i].Type = with(t.Fields[i].Type, f)
	return t
}

// wrappedMap is deepMap, but for a list of b.
func wrappedMap(depth int) api.Type {
	t := typ("{b: list (1 .. 1) of bool}")
	for range depth {
		t = wide(0, field("d", api.Type{Kind: api.TDict, Hi: 1, Of: []api.Type{t}}))
	}
	return t
}

// What is within is held to the limits by itself, and to those of the whole as soon as all of Subs are done.
func TestP7_2FullWithin(t *testing.T) {
	all, yes, no := parted(api.MaxTypes), add("z", "bool", "true"), remove("z", "bool", "true")
	wantMade(t, "too many for a while", all, steps(in("r", yes, no)), all)
	wantNone(t, "too many", all, steps(rename("r", "w"), in("w", yes), wrap("z")), 1, api.ErrFull)
	wantNone(t, "too many, and wrong within", all, steps(in("r", yes, wrap("q"))), 0, api.ErrMiss)
	wantNone(t, "too many for a while outside", all, steps(yes, no), 0, api.ErrFull)
	wantMade(t, "one more within", parted(api.MaxTypes-1), steps(in("r", yes)), inR(parted(api.MaxTypes-1), field("z", typ("bool"))))
	wantMade(t, "too deep for a while", deepMap(5), eachOf(5, wrap("b"), head("b")), deepMap(5))
	full := wide(0, field("d", api.Type{Kind: api.TDict, Hi: 1, Of: []api.Type{wide(api.MaxFields)}}), field("r", wide(api.MaxFields)))
	wantNone(t, "a field too many for a while", full, steps(rename("r", "s"), in("s", yes, no)), 1, api.ErrFull)
	wantNone(t, "a field too many for a while in each", full, steps(rename("r", "s"), each("d", yes, no)), 1, api.ErrFull)
	wantNone(t, "a field too many, and then wrong", full, steps(in("r", yes, api.Lens{})), 0, api.ErrFull)
}
