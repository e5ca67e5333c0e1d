package decl_test

import (
	"fmt"
	"strings"
	"testing"

	"cabochon/api"
	"cabochon/decl"
	"cabochon/text"
)

// printed is a type, and its text.
type printed struct {
	t    api.Type
	want string
}

func wantPrinted(t *testing.T, l []printed) {
	t.Helper()
	for _, x := range l {
		if got := decl.Print(x.t); got != x.want {
			t.Errorf("%s is printed %s, not %s", short(show(x.t)), short(got), short(x.want))
		}
	}
}

func TestP6_2Print(t *testing.T) {
	wantPrinted(t, []printed{
		{rec(), "{}"},
		{rec(field("a", yes())), "{a: bool}"},
		{rec(optional("a", yes())), "{a?: bool}"},
		{rec(field("n", number(3, 9)), optional("o", yes())), "{n: int (3 .. 9), o?: bool}"},
		{rec(optional("a", rec()), field("b", rec(field("c", rec()))), field("d", yes())), "{a?: {}, b: {c: {}}, d: bool}"},
		{dict(0, 4, rec()), "dict (0 .. 4) of {}"},
		{dict(1, 2, dict(3, 4, list(5, 6, yes()))), "dict (1 .. 2) of dict (3 .. 4) of list (5 .. 6) of bool"},
		{list(1, 1, str(0, 3)), "list (1 .. 1) of bytes (0 .. 3)"},
		{list(0, api.MaxInt, enum("a")), `list (0 .. 9223372036854775807) of enum ("a")`},
		{number(-3, 9), "int (-3 .. 9)"},
		{number(0, 0), "int (0 .. 0)"},
		{number(api.MinInt, api.MaxInt), "int (-9223372036854775808 .. 9223372036854775807)"},
		{yes(), "bool"},
		{str(0, 256), "bytes (0 .. 256)"},
		{enum("a"), `enum ("a")`},
		{enum("", "a b", "b"), `enum ("", "a b", "b")`},
		{enum("\n", "\"", "\\", "~", "\x7f", "\xff"), `enum ("\x0a", "\"", "\\", "~", "\x7f", "\xff")`},
	})
}

func TestP6_2PrintOfWhatIsNotRight(t *testing.T) {
	zero := api.Type{}
	full := api.Type{Lo: 1, Hi: 2, Names: names(1), Fields: []api.Field{field("a", yes())}, Of: []api.Type{number(0, 1), yes()}}
	kind := func(kind int) api.Type {
		x := full
		x.Kind = kind
		return x
	}
	wantPrinted(t, []printed{
		{zero, "?"},
		{kind(0), "?"},
		{kind(-1), "?"},
		{kind(8), "?"},
		{kind(api.MaxInt), "?"},
		{kind(api.TRec), "{a: bool}"},
		{kind(api.TDict), "dict (1 .. 2) of int (0 .. 1)"},
		{kind(api.TList), "list (1 .. 2) of int (0 .. 1)"},
		{kind(api.TInt), "int (1 .. 2)"},
		{kind(api.TBool), "bool"},
		{kind(api.TBytes), "bytes (1 .. 2)"},
		{kind(api.TEnum), `enum ("n1048576")`},
		{api.Type{Kind: api.TDict, Lo: 1, Hi: 2}, "dict (1 .. 2) of ?"},
		{api.Type{Kind: api.TList, Lo: 1, Hi: 2, Of: []api.Type{}}, "list (1 .. 2) of ?"},
		{list(0, 1, zero), "list (0 .. 1) of ?"},
		{list(0, 1, api.Type{Kind: api.TDict}), "list (0 .. 1) of dict (0 .. 0) of ?"},
		{rec(field("a", zero), optional("b", api.Type{Kind: 9})), "{a: ?, b?: ?}"},
		{rec(field("", yes()), field("A b", yes()), field("in", yes()), field("\n\"", yes())), "{: bool, A b: bool, in: bool, \n\": bool}"},
		{rec(field("b", yes()), field("a", yes()), optional("b", yes())), "{b: bool, a: bool, b?: bool}"},
		{enum(), "enum ()"},
		{enum("b", "a", "b"), `enum ("b", "a", "b")`},
		{number(1, 0), "int (1 .. 0)"},
		{str(-1, 1000), "bytes (-1 .. 1000)"},
		{dict(-1, -2, yes()), "dict (-1 .. -2) of bool"},
	})
}

// told is the text of t, one text in another.
func told(t api.Type) string {
	var l []string
	for _, name := range t.Names {
		l = append(l, text.Quote(name))
	}
	for _, f := range t.Fields {
		l = append(l, f.Name+map[bool]string{true: "?"}[f.Optional]+": "+told(f.Type))
	}
	for _, of := range t.Of {
		l = append(l, told(of))
	}
	inner := strings.Join(l, ", ")
	return []string{
		api.TRec:   "{" + inner + "}",
		api.TDict:  fmt.Sprintf("dict (%d .. %d) of %s", t.Lo, t.Hi, inner),
		api.TList:  fmt.Sprintf("list (%d .. %d) of %s", t.Lo, t.Hi, inner),
		api.TInt:   fmt.Sprintf("int (%d .. %d)", t.Lo, t.Hi),
		api.TBool:  "bool",
		api.TBytes: fmt.Sprintf("bytes (%d .. %d)", t.Lo, t.Hi),
		api.TEnum:  "enum (" + inner + ")",
	}[t.Kind]
}

func TestP6_2PrintOfMany(t *testing.T) {
	for _, x := range append(randoms(2000), kinds()...) {
		wantPrinted(t, []printed{{x, told(x)}})
	}
}

func TestP6_2PrintOfMuch(t *testing.T) {
	const deep, many = 1 << 16, 1 << 16
	if got := decl.Print(chain(deep)); got != strings.Repeat("list (0 .. 1) of ", deep-1)+"bool" {
		t.Errorf("a chain: %s", short(got))
	}
	x := yes()
	for range deep - 1 {
		x = rec(field("a", x))
	}
	if got := decl.Print(x); got != strings.Repeat("{a: ", deep-1)+"bool"+strings.Repeat("}", deep-1) {
		t.Errorf("a chain of records: %s", short(got))
	}
	wide, some := rec(), enum()
	for range many {
		wide.Fields = append(wide.Fields, field("a", number(0, 1)))
		some.Names = append(some.Names, "a")
	}
	if got := decl.Print(wide); got != "{"+strings.Repeat("a: int (0 .. 1), ", many-1)+"a: int (0 .. 1)}" {
		t.Errorf("a wide one: %s", short(got))
	}
	if got := decl.Print(some); got != "enum ("+strings.Repeat(`"a", `, many-1)+`"a")` {
		t.Errorf("many names: %s", short(got))
	}
}
