package lenstext_test

import (
	"fmt"
	"strings"
	"testing"

	"cabochon/api"
	"cabochon/decl"
	"cabochon/doc"
	"cabochon/lenstext"
	"cabochon/text"
)

// wantStep holds Step, and Print of that step alone, of two of it, and of it within others, to a text.
func wantStep(t *testing.T, s api.Lens, wanted string) {
	t.Helper()
	want(t, show(s), lenstext.Step(s), wanted)
	want(t, "alone: "+show(s), lenstext.Print(steps(s)), wanted+";")
	want(t, "twice: "+show(s), lenstext.Print(steps(s, s)), wanted+"; "+wanted+";")
	want(t, "behind another: "+show(s), lenstext.Print(steps(wrap("y"), s, wrap("z"))), "wrap y; "+wanted+"; wrap z;")
	want(t, "within another: "+show(s), lenstext.Step(in("x", s)), "in x {"+wanted+";}")
	want(t, "twice within another: "+show(s), lenstext.Step(each("x", s, s)), "map x {"+wanted+"; "+wanted+";}")
}

func TestP9_1Step(t *testing.T) {
	for wanted, s := range map[string]api.Lens{
		"rename a to b":                  rename("a", "b"),
		"add a: bool = false":            add("a", yes(), doc.Bool(false)),
		"add c: int (-3 .. 9) = -1":      add("c", number(-3, 9), doc.Int(-1)),
		`add c: bytes (0 .. 3) = "a\"b"`: add("c", str(0, 3), doc.Bytes(`a"b`)),
		`add c: enum ("", "x") = ""`:     add("c", enum("", "x"), doc.Bytes("")),
		"remove a: bool = true":          remove("a", yes(), doc.Bool(true)),
		"remove c: int (0 .. 0) = 0":     remove("c", number(0, 0), doc.Int(0)),
		`remove d: enum ("x\x0a") = "x"`: remove("d", enum("x\n"), doc.Bytes("x")),
		"hoist b out of a":               hoist("a", "b"),
		"plunge b in a":                  plunge("a", "b"),
		"wrap a":                         wrap("a"),
		"head a":                         head("a"),
		"convert a (1 -> 2)":             convert("a", [2]int{1, 2}),
		"convert a (1 -> 2, -3 -> 4)":    convert("a", [2]int{1, 2}, [2]int{-3, 4}),
		"convert a (9 -> 8, 7 -> 6, 9223372036854775807 -> -9223372036854775808)": convert("a", [2]int{9, 8}, [2]int{7, 6}, [2]int{api.MaxInt, api.MinInt}),
		"in a {}":                in("a"),
		"in r {wrap b;}":         in("r", wrap("b")),
		"in r {wrap b; head c;}": in("r", wrap("b"), head("c")),
		"map a {}":               each("a"),
		"map m {rename a to b;}": each("m", rename("a", "b")),
		"map m {in r {}; map n {in s {wrap a;};}; head b;}": each("m", in("r"), each("n", in("s", wrap("a"))), head("b")),
	} {
		wantStep(t, s, wanted)
	}
}

// What stands in a step is printed as it is, whatever it is.
func TestP9_1StepOfWhatMayNotBe(t *testing.T) {
	list := api.Type{Kind: api.TList, Lo: 2, Hi: 1, Of: []api.Type{yes()}}
	for wanted, s := range map[string]api.Lens{
		"rename  to ":                            rename("", ""),
		"rename to to in":                        rename("to", "in"),
		"wrap A b;\x00\xff":                      wrap("A b;\x00\xff"),
		"head \"":                                head("\""),
		"hoist } out of {":                       hoist("{", "}"),
		"plunge \\ in \n":                        plunge("\n", "\\"),
		"in  {}":                                 in(""),
		"map ? {?;}":                             each("?", api.Lens{}),
		"convert  ()":                            convert(""),
		"convert a (1 -> 1, 1 -> 1)":             convert("a", [2]int{1, 1}, [2]int{1, 1}),
		"add a: ? = ?":                           add("a", api.Type{}, api.Doc{}),
		"remove a: list (2 .. 1) of bool = [1]":  remove("a", list, doc.List(doc.Int(1))),
		"add a: {b?: bool} = {b = true}":         add("a", api.Type{Kind: api.TRec, Fields: []api.Field{{Name: "b", Optional: true, Type: yes()}}}, doc.Rec([]string{"b"}, []api.Doc{doc.Bool(true)})),
		"remove a: dict (0 .. 0) of ? = <>":      remove("a", api.Type{Kind: api.TDict}, api.Doc{Kind: api.DDict}),
		`add a: enum ("b", "a", "b") = false`:    add("a", enum("b", "a", "b"), api.Doc{Kind: api.DBool, Num: 2}),
		"add a: enum () = \"\\xff\"":             add("a", enum(), doc.Bytes("\xff")),
		"remove A: bytes (-1 .. 1000) = 1000000": remove("A", str(-1, 1000), doc.Int(1000000)),
	} {
		wantStep(t, s, wanted)
	}
}

// What does not count of a step is not printed.
func TestP9_1StepOfAllParts(t *testing.T) {
	full := api.Lens{A: "a", B: "b", Type: number(1, 2), Doc: doc.Int(3), Swaps: [][2]int{{4, 5}}, Subs: steps(wrap("c"))}
	for kind, wanted := range map[int]string{
		api.LRename:  "rename a to b",
		api.LAdd:     "add a: int (1 .. 2) = 3",
		api.LRemove:  "remove a: int (1 .. 2) = 3",
		api.LHoist:   "hoist b out of a",
		api.LPlunge:  "plunge b in a",
		api.LWrap:    "wrap a",
		api.LHead:    "head a",
		api.LConvert: "convert a (4 -> 5)",
		api.LIn:      "in a {wrap c;}",
		api.LMap:     "map a {wrap c;}",
		0:            "?",
		-1:           "?",
		11:           "?",
		api.MinInt:   "?",
		api.MaxInt:   "?",
	} {
		full.Kind = kind
		wantStep(t, full, wanted)
	}
}

func TestP9_1Print(t *testing.T) {
	for wanted, l := range map[string][]api.Lens{
		"":                              nil,
		"?;":                            steps(api.Lens{}),
		"?; ?; ?;":                      make([]api.Lens, 3),
		"wrap a; ?; head a;":            steps(wrap("a"), api.Lens{}, head("a")),
		"in r {wrap b;};":               steps(in("r", wrap("b"))),
		"in a {}; in b {}; map c {?;};": steps(in("a"), in("b"), each("c", api.Lens{})),
	} {
		want(t, show(l), lenstext.Print(l), wanted)
	}
	want(t, "an empty row", lenstext.Print([]api.Lens{}), "")
}

// told is the text of l, one text in another.
func told(l []api.Lens) string {
	var all []string
	for _, s := range l {
		var swaps []string
		for _, pair := range s.Swaps {
			swaps = append(swaps, fmt.Sprintf("%d -> %d", pair[0], pair[1]))
		}
		value := fmt.Sprintf(" %s: %s = %s;", s.A, decl.Print(s.Type), text.Print(s.Doc))
		within := fmt.Sprintf(" %s {%s};", s.A, told(s.Subs))
		all = append(all, []string{
			api.LRename:  "rename " + s.A + " to " + s.B + ";",
			api.LAdd:     "add" + value,
			api.LRemove:  "remove" + value,
			api.LHoist:   "hoist " + s.B + " out of " + s.A + ";",
			api.LPlunge:  "plunge " + s.B + " in " + s.A + ";",
			api.LWrap:    "wrap " + s.A + ";",
			api.LHead:    "head " + s.A + ";",
			api.LConvert: "convert " + s.A + " (" + strings.Join(swaps, ", ") + ");",
			api.LIn:      "in" + within,
			api.LMap:     "map" + within,
		}[s.Kind])
	}
	return strings.Join(all, " ")
}

func TestP9_1PrintOfMany(t *testing.T) {
	for _, l := range append(randoms(3000), kinds()...) {
		wanted := told(l)
		want(t, show(l), lenstext.Print(l), wanted)
		if len(l) == 1 {
			want(t, show(l), lenstext.Step(l[0])+";", wanted)
		}
	}
}

func TestP9_1PrintOfMuch(t *testing.T) {
	const much = 1 << 16
	for word, s := range map[string]api.Lens{"in r {": in("r"), "map r {": each("r")} {
		deep := wrap("a")
		for range much - 1 {
			s.Subs = steps(deep)
			deep = s
		}
		want(t, "a deep one", lenstext.Step(deep), strings.Repeat(word, much-1)+"wrap a;"+strings.Repeat("};", much-2)+"}")
	}
	of := yes()
	for range much - 1 {
		of = api.Type{Kind: api.TList, Hi: 1, Of: []api.Type{of}}
	}
	want(t, "of a deep type", lenstext.Step(add("a", of, api.Doc{})), "add a: "+strings.Repeat("list (0 .. 1) of ", much-1)+"bool = ?")
	many, pairs := make([]api.Lens, much), make([][2]int, much)
	want(t, "a long one", lenstext.Print(many), strings.Repeat("?; ", much-1)+"?;")
	want(t, "many swaps", lenstext.Step(convert("a", pairs...)), "convert a ("+strings.Repeat("0 -> 0, ", much-1)+"0 -> 0)")
}
