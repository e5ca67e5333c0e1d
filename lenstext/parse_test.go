package lenstext_test

import (
	"fmt"
	"math/rand/v2"
	"slices"
	"strings"
	"testing"

	"cabochon/api"
	"cabochon/decl"
	"cabochon/doc"
	"cabochon/lenstext"
)

func wantRead(t *testing.T, s string, wanted []api.Lens) {
	t.Helper()
	l, at, err := lenstext.Parse(s)
	if at != len(s) || err != api.OK {
		t.Errorf("%q: %v at %d", short(s), err, at)
	}
	want(t, s, l, wanted)
}

// wrong is a text, and where and how it is wrong.
type wrong struct {
	s   string
	at  int
	err api.Errno
}

func wantWrong(t *testing.T, l ...wrong) {
	t.Helper()
	for _, x := range l {
		got, at, err := lenstext.Parse(x.s)
		if at != x.at || err != x.err || len(got) > 0 {
			t.Errorf("%q: %v at %d, not %v at %d: %s", short(x.s), err, at, x.err, x.at, short(show(got)))
		}
	}
}

func TestP9_2Parse(t *testing.T) {
	for s, wanted := range map[string][]api.Lens{
		"":                                          nil,
		" \t\r\n":                                   nil,
		"rename a to b;":                            steps(rename("a", "b")),
		"add c: bool = false;":                      steps(add("c", yes(), doc.Bool(false))),
		"add c: bool = true;":                       steps(add("c", yes(), doc.Bool(true))),
		"add c:int(-3..9)=-1;":                      steps(add("c", number(-3, 9), doc.Int(-1))),
		`add c: bytes (0 .. 3) = "";`:               steps(add("c", str(0, 3), doc.Bytes(""))),
		`add c: enum ("x") = "\x61\"\\";`:           steps(add("c", enum("x"), doc.Bytes(`a"\`))),
		`remove d: enum ("x", "\x79") = "x";`:       steps(remove("d", enum("x", "y"), doc.Bytes("x"))),
		"remove d: bool = true;":                    steps(remove("d", yes(), doc.Bool(true))),
		"hoist e out of r;":                         steps(hoist("r", "e")),
		"plunge b in r;":                            steps(plunge("r", "b")),
		"wrap b;":                                   steps(wrap("b")),
		"head q;":                                   steps(head("q")),
		"convert n (1 -> 2);":                       steps(convert("n", [2]int{1, 2})),
		"convert n(1->2,-3->4,4->4);":               steps(convert("n", [2]int{1, 2}, [2]int{-3, 4}, [2]int{4, 4})),
		"in r {};":                                  steps(in("r")),
		"in r {wrap b;};":                           steps(in("r", wrap("b"))),
		"map m {wrap b; head q;};":                  steps(each("m", wrap("b"), head("q"))),
		"in r{map m{in s{wrap a;};};head b;};":      steps(in("r", each("m", in("s", wrap("a"))), head("b"))),
		"wrap a;wrap a;wrap b;":                     steps(wrap("a"), wrap("a"), wrap("b")),
		" \nwrap\ta\r; \n head\nb\n;\n":             steps(wrap("a"), head("b")),
		"rename true to false; rename false to a;":  steps(rename("true", "false"), rename("false", "a")),
		"add true: bool = true;":                    steps(add("true", yes(), doc.Bool(true))),
		"rename a to a; hoist a out of a;":          steps(rename("a", "a"), hoist("a", "a")),
		"rename ins to a0; wrap abcdefghijklmnop;":  steps(rename("ins", "a0"), wrap("abcdefghijklmnop")),
		"plunge a in in_; in in_ {}; map maps {};":  steps(plunge("in_", "a"), in("in_"), each("maps")),
		"convert n (9223372036854775807 -> 0);":     steps(convert("n", [2]int{api.MaxInt, 0})),
		"convert n (1 -> -9223372036854775808);":    steps(convert("n", [2]int{1, api.MinInt})),
		`remove c: enum ("b", "", "a", "B") = "c";`: steps(remove("c", enum("", "B", "a", "b"), doc.Bytes("c"))),
	} {
		wantRead(t, s, wanted)
	}
}

// Whether a type is right, and a value of it, is not asked; nor is what the swaps are.
func TestP9_2ParseOfWhatMayNotBe(t *testing.T) {
	brim := strings.Repeat("z", api.MaxBytes)
	many := enum(names(100)...)
	for s, wanted := range map[string]api.Lens{
		"add a: int (3 .. 1) = 2;":                             add("a", number(3, 1), doc.Int(2)),
		"add a: int (0 .. 1) = 2;":                             add("a", number(0, 1), doc.Int(2)),
		"add a: int (0 .. 1) = true;":                          add("a", number(0, 1), doc.Bool(true)),
		"remove a: bytes (-1 .. 1000) = 5;":                    remove("a", str(-1, 1000), doc.Int(5)),
		"remove a: bool = \"true\";":                           remove("a", yes(), doc.Bytes("true")),
		`add a: enum ("x") = false;`:                           add("a", enum("x"), doc.Bool(false)),
		"add a: bool = \"" + brim + "\";":                      add("a", yes(), doc.Bytes(brim)),
		"add a: " + decl.Print(many) + ` = "";`:                add("a", many, doc.Bytes("")),
		"convert a (1 -> 1, 1 -> 1);":                          convert("a", [2]int{1, 1}, [2]int{1, 1}),
		"convert a (" + strings.Repeat("0->0,", 99) + "0->0);": convert("a", make([][2]int, 100)...),
	} {
		wantRead(t, s, steps(wanted))
	}
}

// TestP9_2ParseOfOtherSpellings writes lenses as the grammar has them, but not as Print does.
func TestP9_2ParseOfOtherSpellings(t *testing.T) {
	r := rand.New(rand.NewPCG(3, 4))
	for _, l := range append(randoms(3000), kinds()...) {
		if s := spell(r, l); len(s) <= api.MaxText {
			wantRead(t, s, l)
		}
	}
}

func spell(r *rand.Rand, l []api.Lens) string {
	all := blanks(r)
	for _, s := range l {
		for _, piece := range append(pieces(r, s), ";") {
			if all != "" && piece != "" && named(all[len(all)-1]) && named(piece[0]) {
				all += " "
			}
			all += piece + blanks(r)
		}
	}
	return all
}

// named is whether c may stand in a name, or a number: between two of these must be a blank.
func named(c byte) bool { return c >= 'a' && c <= 'z' || c >= '0' && c <= '9' || c == '_' }

// pieces is what stands in a step, one behind the other.
func pieces(r *rand.Rand, s api.Lens) []string {
	switch s.Kind {
	case api.LRename:
		return []string{"rename", s.A, "to", s.B}
	case api.LAdd:
		return append([]string{"add", s.A, ":"}, valued(r, s)...)
	case api.LRemove:
		return append([]string{"remove", s.A, ":"}, valued(r, s)...)
	case api.LHoist:
		return []string{"hoist", s.B, "out", "of", s.A}
	case api.LPlunge:
		return []string{"plunge", s.B, "in", s.A}
	case api.LWrap:
		return []string{"wrap", s.A}
	case api.LHead:
		return []string{"head", s.A}
	case api.LIn:
		return []string{"in", s.A, "{", spell(r, s.Subs), "}"}
	case api.LMap:
		return []string{"map", s.A, "{", spell(r, s.Subs), "}"}
	}
	l := []string{"convert", s.A, "("}
	for i, pair := range s.Swaps {
		if i > 0 {
			l = append(l, ",")
		}
		l = append(l, fmt.Sprint(pair[0]), "->", fmt.Sprint(pair[1]))
	}
	return append(l, ")")
}

// valued is the type and the value of a step; the names of an enum in any order.
func valued(r *rand.Rand, s api.Lens) []string {
	var l []string
	switch s.Type.Kind {
	case api.TInt:
		l = []string{"int", "(", fmt.Sprint(s.Type.Lo), "..", fmt.Sprint(s.Type.Hi), ")"}
	case api.TBytes:
		l = []string{"bytes", "(", fmt.Sprint(s.Type.Lo), "..", fmt.Sprint(s.Type.Hi), ")"}
	case api.TBool:
		l = []string{"bool"}
	case api.TEnum:
		l = []string{"enum", "("}
		for i, n := range r.Perm(len(s.Type.Names)) {
			if i > 0 {
				l = append(l, ",")
			}
			l = append(l, spellBytes(r, s.Type.Names[n]))
		}
		l = append(l, ")")
	}
	switch s.Doc.Kind {
	case api.DInt:
		return append(l, "=", fmt.Sprint(s.Doc.Num))
	case api.DBool:
		return append(l, "=", fmt.Sprint(s.Doc.Num == 1))
	}
	return append(l, "=", spellBytes(r, s.Doc.Str))
}

func blanks(r *rand.Rand) string {
	s := ""
	for range r.IntN(3) {
		s += []string{" ", "\t", "\n", "\r"}[r.IntN(4)]
	}
	return s
}

func spellBytes(r *rand.Rand, s string) string {
	w := ""
	for i := range len(s) {
		switch c := s[i]; {
		case c < 32 || c > 126 || r.IntN(3) == 0:
			w += fmt.Sprintf("\\x%02x", c)
		case c == '"' || c == '\\':
			w += "\\" + string(c)
		default:
			w += string(c)
		}
	}
	return "\"" + w + "\""
}

func TestP9_2Form(t *testing.T) {
	wantWrong(t,
		wrong{";", 0, api.ErrForm},
		wrong{"wrap a;;", 7, api.ErrForm},
		wrong{"a;", 0, api.ErrForm},
		wrong{" true;", 1, api.ErrForm},
		wrong{"to a;", 0, api.ErrForm},
		wrong{"of a;", 0, api.ErrForm},
		wrong{"out of a;", 0, api.ErrForm},
		wrong{"bool;", 0, api.ErrForm},
		wrong{"1;", 0, api.ErrForm},
		wrong{"\"wrap\" a;", 0, api.ErrForm},
		wrong{"{}", 0, api.ErrForm},
		wrong{"}", 0, api.ErrForm},
		wrong{"wraps a;", 0, api.ErrForm},
		wrong{"wrap", 4, api.ErrForm},
		wrong{"wrap  ", 6, api.ErrForm},
		wrong{"wrap a", 6, api.ErrForm},
		wrong{"wrap a ", 7, api.ErrForm},
		wrong{"wrap a, head b;", 6, api.ErrForm},
		wrong{"wrap a head b;", 7, api.ErrForm},
		wrong{"wrap a b;", 7, api.ErrForm},
		wrong{"wrap;", 4, api.ErrForm},
		wrong{"wrap 1;", 5, api.ErrForm},
		wrong{"wrap \"a\";", 5, api.ErrForm},
		wrong{"wrap a; }", 8, api.ErrForm},
		wrong{"wrap a; b", 8, api.ErrForm},
		wrong{"head a}", 6, api.ErrForm},
		wrong{"rename a;", 8, api.ErrForm},
		wrong{"rename a b;", 9, api.ErrForm},
		wrong{"rename a in b;", 9, api.ErrForm},
		wrong{"rename a -> b;", 9, api.ErrForm},
		wrong{"rename a to;", 11, api.ErrForm},
		wrong{"rename a to to;", 12, api.ErrForm},
		wrong{"rename to to a;", 7, api.ErrForm},
		wrong{"hoist a of b;", 8, api.ErrForm},
		wrong{"hoist a out b;", 12, api.ErrForm},
		wrong{"hoist a in b;", 8, api.ErrForm},
		wrong{"hoist a out of;", 14, api.ErrForm},
		wrong{"plunge a to b;", 9, api.ErrForm},
		wrong{"plunge a in;", 11, api.ErrForm},
		wrong{"plunge a out of b;", 9, api.ErrForm},
		wrong{"in a;", 4, api.ErrForm},
		wrong{"in a (wrap b;);", 5, api.ErrForm},
		wrong{"in {wrap b;};", 3, api.ErrForm},
		wrong{"in a {wrap b};", 12, api.ErrForm},
		wrong{"in a {wrap b;}", 14, api.ErrForm},
		wrong{"in a {wrap b;", 13, api.ErrForm},
		wrong{"in a {;};", 6, api.ErrForm},
		wrong{"in a {", 6, api.ErrForm},
		wrong{"map a {in b {};", 15, api.ErrForm},
		wrong{"map a {in b {}};", 14, api.ErrForm},
		wrong{"map a {}};", 8, api.ErrForm},
		wrong{"map a {b};", 7, api.ErrForm},
	)
}

func TestP9_2FormOfValues(t *testing.T) {
	wantWrong(t,
		wrong{"add c;", 5, api.ErrForm},
		wrong{"add c?: bool = true;", 5, api.ErrForm},
		wrong{"add c bool = true;", 6, api.ErrForm},
		wrong{"add c: = true;", 7, api.ErrForm},
		wrong{"add c: bool;", 11, api.ErrForm},
		wrong{"add c: bool true;", 12, api.ErrForm},
		wrong{"add c: bool = ;", 14, api.ErrForm},
		wrong{"add c: bool =", 13, api.ErrForm},
		wrong{"add c: bool = maybe;", 14, api.ErrForm},
		wrong{"add c: bool = trues;", 14, api.ErrForm},
		wrong{"add c: bool = bool;", 14, api.ErrForm},
		wrong{"add c: bool = {};", 14, api.ErrForm},
		wrong{"add c: bool = [1];", 14, api.ErrForm}, // Lex has no such sign
		wrong{"add c: bool = true false;", 19, api.ErrForm},
		wrong{"add c: bool = 1 2;", 16, api.ErrForm},
		wrong{"add c: boolean = true;", 7, api.ErrForm},
		wrong{"add c: true = true;", 7, api.ErrForm},
		wrong{"add c: {} = true;", 7, api.ErrForm},
		wrong{"add c: list (0 .. 1) of bool = 1;", 7, api.ErrForm},
		wrong{"remove c: dict (0 .. 1) of bool = 1;", 10, api.ErrForm},
		wrong{"remove c: bool (0 .. 1) = 1;", 15, api.ErrForm},
		wrong{"add c: int = 1;", 11, api.ErrForm},
		wrong{"add c: int () = 1;", 12, api.ErrForm},
		wrong{"add c: int (0) = 1;", 13, api.ErrForm},
		wrong{"add c: int (0, 1) = 1;", 13, api.ErrForm},
		wrong{"add c: int (0 ..) = 1;", 16, api.ErrForm},
		wrong{"add c: int (0 .. 1 = 1;", 19, api.ErrForm},
		wrong{"add c: bytes (a .. 1) = 1;", 14, api.ErrForm},
		wrong{"add c: bytes (\"0\" .. 1) = 1;", 14, api.ErrForm},
		wrong{"add c: enum = \"x\";", 12, api.ErrForm},
		wrong{"add c: enum () = \"x\";", 13, api.ErrForm},
		wrong{"add c: enum (x) = \"x\";", 13, api.ErrForm},
		wrong{"add c: enum (\"x\" \"y\") = \"x\";", 17, api.ErrForm},
		wrong{"add c: enum (\"x\",) = \"x\";", 17, api.ErrForm},
		wrong{"add c: enum (\"x\";", 16, api.ErrForm},
		wrong{"convert n;", 9, api.ErrForm},
		wrong{"convert n ();", 11, api.ErrForm},
		wrong{"convert n {1 -> 2};", 10, api.ErrForm},
		wrong{"convert n (1);", 12, api.ErrForm},
		wrong{"convert n (1 .. 2);", 13, api.ErrForm},
		wrong{"convert n (1 2);", 13, api.ErrForm},
		wrong{"convert n (1 ->);", 15, api.ErrForm},
		wrong{"convert n (-> 2);", 11, api.ErrForm},
		wrong{"convert n (1 -> a);", 16, api.ErrForm},
		wrong{"convert n (1 -> 2,);", 18, api.ErrForm},
		wrong{"convert n (1 -> 2 3 -> 4);", 18, api.ErrForm},
		wrong{"convert n (1 -> 2 -> 3);", 18, api.ErrForm},
		wrong{"convert n (1 -> 2;", 17, api.ErrForm},
		wrong{"convert n (1 -> \"2\");", 16, api.ErrForm},
	)
}

// allWords is the words as P6.1 lists them.
var allWords = []string{"dict", "list", "of", "int", "bool", "bytes", "enum", "rename", "to", "add", "remove", "hoist", "plunge", "wrap", "head", "convert", "in", "map", "out"}

func TestP9_2WordsAreNoNames(t *testing.T) {
	for _, w := range allWords {
		for _, s := range []string{"rename @ to a;", "rename a to @;", "add @: bool = true;", "remove @: bool = true;", "hoist @ out of a;", "hoist a out of @;", "plunge @ in a;", "plunge a in @;", "wrap @;", "head @;", "convert @ (1 -> 2);", "in @ {};", "map @ {};", "in a {wrap @;};", "add a: bool = @;"} {
			at := strings.Index(s, "@")
			wantWrong(t, wrong{strings.Replace(s, "@", w, 1), at, api.ErrForm}, wrong{s[:at] + w, at, api.ErrForm})
			if !strings.Contains(s, "= @") {
				name := w + "_"
				l, _, err := lenstext.Parse(strings.Replace(s, "@", name, 1))
				if err != api.OK || !strings.Contains(show(l), "\""+name+"\"") {
					t.Errorf("%s as %s: %v, %s", s, name, err, show(l))
				}
			}
		}
	}
}

func TestP9_2Twice(t *testing.T) {
	wantWrong(t,
		wrong{`add c: enum ("x", "x") = "x";`, 18, api.ErrTwice},
		wrong{`remove c: enum ("x", "x") = "x";`, 21, api.ErrTwice},
		wrong{`add c: enum ("x", "\x78") = "x";`, 18, api.ErrTwice},
		wrong{`add c: enum ("y", "x", "", "y"`, 27, api.ErrTwice},
		wrong{`add c: enum ("", "" "")`, 17, api.ErrTwice},
		wrong{`in a {map b {add c: enum ("x", "y", "x", "y") = 1;};};`, 36, api.ErrTwice},
		wrong{`add c: enum ("x", "x"); ;`, 18, api.ErrTwice},
		wrong{`add c: enum ("x" "x");`, 17, api.ErrForm},
		wrong{`add c: bool; add c: enum ("x", "x") = "x";`, 11, api.ErrForm},
	)
	// What stands in another one is not there twice.
	x := add("c", enum("x", "y"), doc.Bytes("x"))
	wantRead(t, `add c: enum ("y", "x") = "x"; in c {add c: enum ("x", "y") = "x";};`, steps(x, in("c", x)))
	wantRead(t, `wrap a; wrap a; convert n (1 -> 1);`, steps(wrap("a"), wrap("a"), convert("n", [2]int{1, 1})))
}

// eachKind is a text of a step of each kind.
var eachKind = []string{"rename a to b;", "add c: bool = true;", "remove c: bool = true;", "hoist e out of r;", "plunge b in r;", "wrap a;", "head a;", "convert n (1 -> 2);", "in a {};", "map a {};"}

func TestP9_2Full(t *testing.T) {
	for _, s := range eachKind {
		full := strings.Repeat(s, api.MaxSteps)
		if l, at, err := lenstext.Parse(full); len(l) != api.MaxSteps || at != len(full) || err != api.OK {
			t.Errorf("%s as often as may be: %v at %d", s, err, at)
		}
		for _, more := range eachKind {
			word, _, _ := strings.Cut(more, " ")
			wantWrong(t, wrong{full + more, len(full), api.ErrFull}, wrong{full + " " + word, len(full) + 1, api.ErrFull}, wrong{full + more + "$", len(full) + len(more), api.ErrForm})
		}
		// Where no step begins, there is none too much.
		for _, other := range []string{";", "a", "}", "of", "to", "true", "1", "\"wrap\""} {
			wantWrong(t, wrong{full + other, len(full), api.ErrForm})
		}
		wantWrong(t, wrong{full[:len(full)-1] + " wrap a;", len(full), api.ErrForm})
	}
	within := "in a {" + strings.Repeat("wrap a;", api.MaxSteps-1)
	wantRead(t, within+"};", steps(in("a", slices.Repeat(steps(wrap("a")), api.MaxSteps-1)...)))
	wantWrong(t,
		wrong{within + "wrap a;};", len(within), api.ErrFull},
		wrong{within + "};wrap a;", len(within) + 2, api.ErrFull},
		wrong{within + "}wrap a;", len(within) + 1, api.ErrForm},
		wrong{strings.Repeat("in a {};", api.MaxSteps-1) + "in b {in c {};};", 8*(api.MaxSteps-1) + 6, api.ErrFull},
		wrong{strings.Repeat("map a {wrap b;};", api.MaxSteps), 16 * api.MaxSteps / 2, api.ErrFull},
		wrong{strings.Repeat("wrap a;", 2000), 7 * api.MaxSteps, api.ErrFull},
	)
}

func TestP9_2Deep(t *testing.T) {
	const word, end = "in r {", "};"
	wantRead(t, strings.Repeat(word, 8)+strings.Repeat(end, 8), nested(8))
	wantRead(t, strings.Repeat(word, 8)+"wrap a;"+strings.Repeat(end, 8), nested(8, wrap("a")))
	wantRead(t, strings.Repeat(strings.Repeat(word, 8)+strings.Repeat(end, 8), 8), slices.Repeat(nested(8), 8))
	wantRead(t, word+strings.Repeat("map r {"+end, 60)+end, steps(in("r", slices.Repeat(steps(each("r")), 60)...)))
	deep := strings.Repeat(word, 7) + "map m {"
	at := len(deep)
	wantWrong(t,
		wrong{deep + "in", at, api.ErrDeep},
		wrong{deep + "map", at, api.ErrDeep},
		wrong{deep + "in in", at, api.ErrDeep},
		wrong{deep + " map a {};" + strings.Repeat(end, 8), at + 1, api.ErrDeep},
		wrong{deep + "plunge a in b; in a {};", at + 15, api.ErrDeep},
		wrong{deep + "};" + "map a {in b {};", at + 9, api.ErrDeep},
		wrong{deep + "};};" + "map a {in b {in c {", at + 4 + 7 + 6, api.ErrDeep},
		wrong{deep + "} in", at + 2, api.ErrForm},
		wrong{deep + "a", at, api.ErrForm},
		wrong{deep + "in $", at + 3, api.ErrForm},
		wrong{strings.Repeat(word, api.MaxText/len(word)), at - 1, api.ErrDeep},
	)
	// Of what is too deep and too much at one place, the one that is named first is told.
	full := strings.Repeat("wrap a;", api.MaxSteps-8) + deep
	wantWrong(t,
		wrong{full + "in a {};", len(full), api.ErrFull},
		wrong{full + "map a {};", len(full), api.ErrFull},
		wrong{full[7:] + "in a {};", len(full) - 7, api.ErrDeep},
	)
}

func TestP9_2WhatLexTellsIsFirst(t *testing.T) {
	long := strings.Repeat("a", api.MaxName+1)
	wantWrong(t,
		wrong{"; $", 2, api.ErrForm},
		wrong{"wrap a; [", 8, api.ErrForm},
		wrong{"; -", 2, api.ErrForm},
		wrong{"; \"", 2, api.ErrForm},
		wrong{"wrap a; " + long, 8, api.ErrRange},
		wrong{"; wrap " + long + ";", 7, api.ErrRange},
		wrong{"wrap " + long + ";", 5, api.ErrRange},
		wrong{"; 9223372036854775808", 2, api.ErrRange},
		wrong{"convert n (1 -> -9223372036854775809);", 16, api.ErrRange},
		wrong{"add a: bool = \"" + strings.Repeat("a", api.MaxBytes+1) + "\";", 14, api.ErrRange},
		wrong{`add c: enum ("x", "x") = "x"; ?$`, 31, api.ErrForm},
		wrong{strings.Repeat("in a {", 9) + "$", 54, api.ErrForm},
		wrong{strings.Repeat("wrap a;", api.MaxSteps+1) + "$", 7*api.MaxSteps + 7, api.ErrForm},
		wrong{"wrap a;" + strings.Repeat(" ", api.MaxText-6), api.MaxText, api.ErrFull},
		wrong{"; $" + strings.Repeat(" ", api.MaxText), api.MaxText, api.ErrFull},
		wrong{"wrap a" + strings.Repeat(" ", api.MaxText-6), api.MaxText, api.ErrForm},
	)
	wantRead(t, "wrap a;"+strings.Repeat(" ", api.MaxText-7), steps(wrap("a")))
	wantRead(t, strings.Repeat(" ", api.MaxText), nil)
}
