package decl_test

import (
	"fmt"
	"math/rand/v2"
	"strings"
	"testing"

	"cabochon/api"
	"cabochon/decl"
)

func TestP6_3Parse(t *testing.T) {
	for s, want := range map[string]api.Type{
		"{n: int (3 .. 9), o?: bool}":                    rec(field("n", number(3, 9)), optional("o", yes())),
		"{o?: bool, n: int (-3 .. 9)}":                   rec(field("n", number(-3, 9)), optional("o", yes())),
		"{}":                                             rec(),
		" { } ":                                          rec(),
		"{a:bool}":                                       rec(field("a", yes())),
		"{a ? : bool}":                                   rec(optional("a", yes())),
		"{c:bool,a?:{},b:{b:bool,a:{}}}":                 rec(optional("a", rec()), field("b", rec(field("a", rec()), field("b", yes()))), field("c", yes())),
		"{a_: bool, a0: {}, a: bool}":                    rec(field("a", yes()), field("a0", rec()), field("a_", yes())),
		"{true: bool, false: bool}":                      rec(field("false", yes()), field("true", yes())),
		"{dicts: bool, o: bool}":                         rec(field("dicts", yes()), field("o", yes())),
		"dict(0..4)of{}":                                 dict(0, 4, rec()),
		"dict (1 .. 2) of dict(3..3)of{}":                dict(1, 2, dict(3, 3, rec())),
		"list (1 .. 1) of bytes (0 .. 3)":                list(1, 1, str(0, 3)),
		"list(0..0)of list(0..9)of bool":                 list(0, 0, list(0, 9, yes())),
		"list(0..9)of{a:bool}":                           list(0, 9, rec(field("a", yes()))),
		"int (0 .. 0)":                                   number(0, 0),
		"int(-9223372036854775808..9223372036854775807)": number(api.MinInt, api.MaxInt),
		"\n\tint\r(\n-2\n..\n-1\n)\n":                    number(-2, -1),
		"bool":                                           yes(),
		" bool ":                                         yes(),
		"bytes (256 .. 256)":                             str(256, 256),
		"enum (\"a\")":                                   enum("a"),
		"enum (\"b\", \"a\")":                            enum("a", "b"),
		"enum(\"b\",\"\",\"\\x00\",\"\\x61b\",\"a\",\"\\xff\",\"B\")": enum("", "\x00", "B", "a", "ab", "b", "\xff"),
		"enum(\"bool\",\"{\",\"\\\"\",\"\\\\\")":                      enum("\"", "\\", "bool", "{"),
	} {
		x, at, err := decl.Parse(s)
		if at != len(s) || err != api.OK {
			t.Errorf("%q: %v at %d", s, err, at)
		}
		wantType(t, s, x, want)
	}
}

// TestP6_3ParseOfOtherSpellings writes types as the grammar has them, but not as Print does.
func TestP6_3ParseOfOtherSpellings(t *testing.T) {
	r := rand.New(rand.NewPCG(5, 6))
	for _, x := range append(randoms(2000), kinds()...) {
		s := spell(r, x)
		if len(s) > api.MaxText {
			continue
		}
		got, at, err := decl.Parse(s)
		if at != len(s) || err != api.OK {
			t.Errorf("%q: %v at %d", s, err, at)
		}
		wantType(t, s, got, x)
	}
}

func spell(r *rand.Rand, t api.Type) string {
	var l []string
	switch t.Kind {
	case api.TRec:
		for _, i := range r.Perm(len(t.Fields)) {
			f := t.Fields[i]
			s := f.Name + blanks(r)
			if f.Optional {
				s += "?" + blanks(r)
			}
			l = append(l, blanks(r)+s+":"+spell(r, f.Type))
		}
		return blanks(r) + "{" + strings.Join(l, ",") + blanks(r) + "}" + blanks(r)
	case api.TDict:
		return blanks(r) + "dict" + spellRange(r, t) + "of" + behindWord(spell(r, t.Of[0]))
	case api.TList:
		return blanks(r) + "list" + spellRange(r, t) + "of" + behindWord(spell(r, t.Of[0]))
	case api.TInt:
		return blanks(r) + "int" + spellRange(r, t)
	case api.TBytes:
		return blanks(r) + "bytes" + spellRange(r, t)
	case api.TEnum:
		for _, i := range r.Perm(len(t.Names)) {
			l = append(l, blanks(r)+spellBytes(r, t.Names[i])+blanks(r))
		}
		return blanks(r) + "enum" + blanks(r) + "(" + strings.Join(l, ",") + ")" + blanks(r)
	}
	return blanks(r) + "bool" + blanks(r)
}

// behindWord is s behind a word: a blank must stand between it and another one.
func behindWord(s string) string {
	if 'a' <= s[0] && s[0] <= 'z' {
		return " " + s
	}
	return s
}

func spellRange(r *rand.Rand, t api.Type) string {
	s := blanks(r)
	for _, x := range []string{"(", fmt.Sprint(t.Lo), "..", fmt.Sprint(t.Hi), ")"} {
		s += x + blanks(r)
	}
	return s
}

func blanks(r *rand.Rand) string {
	s := ""
	for range r.IntN(3) {
		s += []string{" ", "\t", "\n", "\r"}[r.IntN(4)]
	}
	return s
}

func spellBytes(r *rand.Rand, s string) string {
	w := ""
	for i := range len(s) {
		switch c := s[i]; {
		case c < 32 || c > 126 || r.IntN(3) == 0:
			w += fmt.Sprintf("\\x%02x", c)
		case c == '"' || c == '\\':
			w += "\\" + string(c)
		default:
			w += string(c)
		}
	}
	return "\"" + w + "\""
}

func wantWrong(t *testing.T, l []wrong) {
	t.Helper()
	for _, x := range l {
		got, at, err := decl.Parse(x.s)
		if at != x.at || err != x.err {
			t.Errorf("%q: %v at %d, not %v at %d", short(x.s), err, at, x.err, x.at)
		}
		wantType(t, x.s, got, api.Type{})
	}
}

func TestP6_3Form(t *testing.T) {
	wantWrong(t, []wrong{
		{"", 0, api.ErrForm},
		{"  ", 2, api.ErrForm},
		{"a", 0, api.ErrForm},
		{" true", 1, api.ErrForm},
		{"of", 0, api.ErrForm},
		{"rename", 0, api.ErrForm},
		{"1", 0, api.ErrForm},
		{"\"bool\"", 0, api.ErrForm},
		{"}", 0, api.ErrForm},
		{"?", 0, api.ErrForm},
		{"(bool)", 0, api.ErrForm},
		{"bool bool", 5, api.ErrForm},
		{"bool?", 4, api.ErrForm},
		{"bool (0 .. 1)", 5, api.ErrForm},
		{"{", 1, api.ErrForm},
		{"{ ", 2, api.ErrForm},
		{"{,", 1, api.ErrForm},
		{"{a", 2, api.ErrForm},
		{"{a}", 2, api.ErrForm},
		{"{a?", 3, api.ErrForm},
		{"{a?}", 3, api.ErrForm},
		{"{a??: bool}", 3, api.ErrForm},
		{"{a:", 3, api.ErrForm},
		{"{a:}", 3, api.ErrForm},
		{"{a = bool}", 3, api.ErrForm},
		{"{a bool}", 3, api.ErrForm},
		{"{a:? bool}", 3, api.ErrForm},
		{"{a: b}", 4, api.ErrForm},
		{"{a: bool", 8, api.ErrForm},
		{"{a: bool)", 8, api.ErrForm},
		{"{a: bool; b: bool}", 8, api.ErrForm},
		{"{a: bool b: bool}", 9, api.ErrForm},
		{"{a: bool,", 9, api.ErrForm},
		{"{a: bool,}", 9, api.ErrForm},
		{"{a: bool,,b: bool}", 9, api.ErrForm},
		{"{,a: bool}", 1, api.ErrForm},
		{"{a: bool}}", 9, api.ErrForm},
		{"{a: bool} {}", 10, api.ErrForm},
		{"{1: bool}", 1, api.ErrForm},
		{"{\"a\": bool}", 1, api.ErrForm},
		{"{bool}", 1, api.ErrForm},
		{"dict", 4, api.ErrForm},
		{"dict of bool", 5, api.ErrForm},
		{"dict (0 .. 1)", 13, api.ErrForm},
		{"dict (0 .. 1) of", 16, api.ErrForm},
		{"dict (0 .. 1) of a", 17, api.ErrForm},
		{"dict (0 .. 1) {}", 14, api.ErrForm},
		{"dict (0 .. 1) in {}", 14, api.ErrForm},
		{"dict (0 .. 1) of {} of {}", 20, api.ErrForm},
		{"list (0 .. 1) bool", 14, api.ErrForm},
		{"list {0 .. 1} of bool", 5, api.ErrForm},
		{"list (0 .. 1 of bool", 13, api.ErrForm},
		{"int", 3, api.ErrForm},
		{"int bool", 4, api.ErrForm},
		{"int (", 5, api.ErrForm},
		{"int ()", 5, api.ErrForm},
		{"int (0", 6, api.ErrForm},
		{"int (0)", 6, api.ErrForm},
		{"int (0 1)", 7, api.ErrForm},
		{"int (0, 1)", 6, api.ErrForm},
		{"int (0 -> 1)", 7, api.ErrForm},
		{"int (0 ..", 9, api.ErrForm},
		{"int (0 .. )", 10, api.ErrForm},
		{"int (.. 1)", 5, api.ErrForm},
		{"int (0 .. 1", 11, api.ErrForm},
		{"int (0 .. 1}", 11, api.ErrForm},
		{"int (0 .. 1) of bool", 13, api.ErrForm},
		{"int (00 .. 1)", 6, api.ErrForm},
		{"int (a .. 1)", 5, api.ErrForm},
		{"int (0 .. \"1\")", 10, api.ErrForm},
		{"bytes", 5, api.ErrForm},
		{"bytes 3", 6, api.ErrForm},
		{"bytes (0 .. 3) of bool", 15, api.ErrForm},
		{"enum", 4, api.ErrForm},
		{"enum ()", 6, api.ErrForm},
		{"enum \"a\"", 5, api.ErrForm},
		{"enum (a)", 6, api.ErrForm},
		{"enum (1)", 6, api.ErrForm},
		{"enum (\"a\"", 9, api.ErrForm},
		{"enum (\"a\",", 10, api.ErrForm},
		{"enum (\"a\",)", 10, api.ErrForm},
		{"enum (\"a\" \"b\")", 10, api.ErrForm},
		{"enum (\"a\"}", 9, api.ErrForm},
		{"enum (,\"a\")", 6, api.ErrForm},
		{"enum {\"a\"}", 5, api.ErrForm},
	})
}

func TestP6_3WordsAreNoFields(t *testing.T) {
	for _, w := range allWords {
		wantWrong(t, []wrong{{"{" + w + ": bool}", 1, api.ErrForm}, {"{a: bool, " + w + "?: bool}", 10, api.ErrForm}, {"{a: {" + w, 5, api.ErrForm}})
		if x, _, err := decl.Parse("{" + w + "_: bool}"); err != api.OK || x.Fields[0].Name != w+"_" {
			t.Errorf("%s_: %v", w, err)
		}
	}
}

func TestP6_3Twice(t *testing.T) {
	wantWrong(t, []wrong{
		{"{a: bool, a: bool}", 10, api.ErrTwice},
		{"{a: bool, a?: {}}", 10, api.ErrTwice},
		{"{a: bool, b: bool, a", 19, api.ErrTwice},
		{"{b: bool, a: bool, b $", 21, api.ErrForm},
		{"{b: bool, a: bool, b}", 19, api.ErrTwice},
		{"{a: bool, ab: bool, abc: bool, ab: bool}", 31, api.ErrTwice},
		{"{a: {a: bool}, b: {a: bool, a: bool}}", 28, api.ErrTwice},
		{"{a: {b: bool}, b: {a: {}}, a: bool}", 27, api.ErrTwice},
		{"{a: bool, b: {a: bool, c: bool}, c: bool, b?", 42, api.ErrTwice},
		{"list (0 .. 1) of {a: {}, a: {}}", 25, api.ErrTwice},
		{"enum (\"a\", \"a\")", 11, api.ErrTwice},
		{"enum (\"a\", \"\\x61\")", 11, api.ErrTwice},
		{"enum (\"b\", \"a\", \"b\"", 16, api.ErrTwice},
		{"enum (\"\", \"a\", \"\" \"\")", 15, api.ErrTwice},
		{"{a: enum (\"a\"), b: enum (\"a\", \"b\", \"b\")}", 35, api.ErrTwice},
		// The first of several, of these that the grammar tells.
		{"{a: bool, a: bool, 1}", 10, api.ErrTwice},
		{"{a: b, a: bool}", 4, api.ErrForm},
		{"{a: bool, a: bool, a: bool}", 10, api.ErrTwice},
		{"{a: bool a: bool}", 9, api.ErrForm},
		{"{a: int (1 .. 0), a: bool}", 18, api.ErrTwice},
		{"{a: int (1 .. 0), b:}", 20, api.ErrForm},
	})
	for s, want := range map[string]api.Type{
		"{a: {a: {a: bool}}, b: {a: bool, b: bool}}":      rec(field("a", rec(field("a", rec(field("a", yes()))))), field("b", rec(field("a", yes()), field("b", yes())))),
		"{a: enum (\"a\"), b: enum (\"a\")}":              rec(field("a", enum("a")), field("b", enum("a"))),
		"{b: bool, a: {b: {}, a: {}}}":                    rec(field("a", rec(field("a", rec()), field("b", rec()))), field("b", yes())),
		"enum (\"a\", \"a \", \"A\", \"aa\", \"\\x41a\")": enum("A", "Aa", "a", "a ", "aa"),
	} {
		x, at, err := decl.Parse(s)
		if at != len(s) || err != api.OK {
			t.Errorf("%q: %v at %d", s, err, at)
		}
		wantType(t, s, x, want)
	}
}

// wrongTypes is types that are not right, each by one thing alone that the grammar can tell.
func wrongTypes() map[string]api.Type {
	many := whole()
	many.Fields[3].Type.Fields[0].Type = list(0, 1, yes())
	return map[string]api.Type{
		"a dict below nothing":      dict(-1, 1, yes()),
		"a dict turned":             dict(2, 1, yes()),
		"a list below nothing":      list(-1, 1, yes()),
		"a list turned":             list(2, 1, yes()),
		"a list of a wrong type":    list(0, 1, number(1, 0)),
		"a number turned":           number(3, 1),
		"a number turned far":       number(api.MaxInt, api.MinInt),
		"bytes below nothing":       str(-1, 1),
		"bytes turned":              str(2, 1),
		"bytes too long":            str(0, api.MaxBytes+1),
		"an enum of too many":       enum(names(api.MaxNames + 1)...),
		"a field too many":          wide(api.MaxFields+1, yes()),
		"a field of a wrong type":   rec(field("a", yes()), optional("b", number(1, 0))),
		"a part too many":           many,
		"too deep":                  chain(api.MaxDepth + 1),
		"too deep by a record":      rec(field("a", chain(api.MaxDepth))),
		"far too deep":              chain(900),
		"far too many fields":       wide(800, yes()),
		"far too many names":        enum(names(1000)...),
		"wrong within many records": rec(field("a", rec(field("b", rec(field("c", str(0, api.MaxInt))))))),
	}
}

func TestP6_3WhatIsNotRight(t *testing.T) {
	for what, x := range wrongTypes() {
		s := " " + told(x)
		if len(s) > api.MaxText {
			t.Errorf("%s: a text of %d bytes", what, len(s))
		}
		wantWrong(t, []wrong{
			{s, 0, api.ErrArg},
			// What the grammar, or a name, has against it is told first, wherever it stands.
			{s + "}", len(s), api.ErrForm},
			{"{a: " + s, 4 + len(s), api.ErrForm},
			{"{a: " + s + ", a: bool}", 6 + len(s), api.ErrTwice},
		})
	}
}

func TestP6_3WhatLexTellsIsFirst(t *testing.T) {
	long := strings.Repeat("a", api.MaxName+1)
	wantWrong(t, []wrong{
		{"int (0 .. $)", 10, api.ErrForm},
		{"bool bool $", 10, api.ErrForm},
		{"{a: bool, a: bool} -", 19, api.ErrForm},
		{"int (3 .. 1) \"", 13, api.ErrForm},
		{long, 0, api.ErrRange},
		{"} " + long, 2, api.ErrRange},
		{"{" + long + ": bool}", 1, api.ErrRange},
		{"int (0 .. 9223372036854775808)", 10, api.ErrRange},
		{"enum (\"" + strings.Repeat("a", api.MaxBytes+1) + "\")", 6, api.ErrRange},
		{"} 9223372036854775808", 2, api.ErrRange},
		{"bool" + strings.Repeat(" ", api.MaxText), api.MaxText, api.ErrFull},
		{"$" + strings.Repeat(" ", api.MaxText), api.MaxText, api.ErrFull},
	})
	if x, at, err := decl.Parse("bool" + strings.Repeat(" ", api.MaxText-4)); at != api.MaxText || err != api.OK || x.Kind != api.TBool {
		t.Errorf("%v at %d", err, at)
	}
}

func TestP6_3ParseOfDeepTexts(t *testing.T) {
	for _, x := range []struct {
		begin, end string
	}{{"{a:", "}"}, {"list(0..1)of ", ""}, {"dict(0..1)of ", ""}} {
		n := (api.MaxText - 4) / len(x.begin+x.end)
		s := strings.Repeat(x.begin, n) + "bool" + strings.Repeat(x.end, n)
		wantWrong(t, []wrong{{s, 0, api.ErrArg}, {s[:len(x.begin)*n], len(x.begin) * n, api.ErrForm}})
		n = api.MaxDepth - 1
		s = strings.Repeat(x.begin, n) + "bool" + strings.Repeat(x.end, n)
		if got, at, err := decl.Parse(s); at != len(s) || err != api.OK || strings.Count(show(got), "(") != api.MaxDepth {
			t.Errorf("%s: %v at %d", s, err, at)
		}
	}
}
