package text_test

import (
	"fmt"
	"math/rand/v2"
	"strings"
	"testing"

	"cabochon/api"
	"cabochon/text"
)

func TestP2_3Parse(t *testing.T) {
	for s, want := range map[string]api.Doc{
		"{ b = [1,-2], a = <\"x\":true> }": rec(keys("a", "b"), dict(keys("x"), yes()), list(num(1), num(-2))),
		"{}":                               rec(nil),
		"{ }":                              rec(nil),
		"<\n>":                             dict(nil),
		"[\t]":                             list(),
		"0":                                num(0),
		"-1":                               num(-1),
		"9223372036854775807":              num(api.MaxInt),
		"-9223372036854775808":             num(api.MinInt),
		"true":                             yes(),
		"false":                            no(),
		"\"\"":                             str(""),
		"\"a b\\x0a\\\"\\\\\\x61\"":        str("a b\n\"\\a"),
		" \t\n\r1\r\n\t ":                  num(1),
		"[ 1 , 2 ]":                        list(num(1), num(2)),
		"[0,[],{},<>,\"\",true]":           list(num(0), list(), rec(nil), dict(nil), str(""), yes()),
		"{c=1,a=2,b=3}":                    rec(keys("a", "b", "c"), num(2), num(3), num(1)),
		"{ c\n=\n1\n,\na\n=\n2\n}":         rec(keys("a", "c"), num(2), num(1)),
		"{true=true,false=0}":              rec(keys("false", "true"), num(0), yes()),
		"{a_=1,a0=2,a=3}":                  rec(keys("a", "a0", "a_"), num(3), num(2), num(1)),
		"<\"c\":1,\"\":2,\"B\":3>":         dict(keys("", "B", "c"), num(2), num(3), num(1)),
		"< \"b\" : 1 , \"\\x00\" : 2 >":    dict(keys("\x00", "b"), num(2), num(1)),
		"<\"\\xff\":1,\"\\x61\":2>":        dict(keys("a", "\xff"), num(2), num(1)),
		"{a={a={a=1},b=2},b=3}":            rec(keys("a", "b"), rec(keys("a", "b"), rec(keys("a"), num(1)), num(2)), num(3)),
		"<\"a\":<\"a\":1>,\"a \":{a=1}>":   dict(keys("a", "a "), dict(keys("a"), num(1)), rec(keys("a"), num(1))),
	} {
		d, at, err := text.Parse(s)
		if at != len(s) || err != api.OK {
			t.Errorf("%q: %d, %v", s, at, err)
		}
		wantDoc(t, s, d, want)
	}
}

// TestP2_3ParseOfOtherSpellings writes documents as the grammar has them, but not as Print does.
func TestP2_3ParseOfOtherSpellings(t *testing.T) {
	r := rand.New(rand.NewPCG(5, 6))
	for _, d := range randoms(1000) {
		s := spell(r, d)
		if len(s) > api.MaxText {
			continue
		}
		got, at, err := text.Parse(s)
		if at != len(s) || err != api.OK {
			t.Errorf("%q: %d, %v", s, at, err)
		}
		wantDoc(t, s, got, d)
	}
}

func spell(r *rand.Rand, d api.Doc) string {
	order := r.Perm(len(d.Kids))
	var items []string
	for _, i := range order {
		switch d.Kind {
		case api.DRec:
			items = append(items, blanks(r)+d.Keys[i]+blanks(r)+"="+spell(r, d.Kids[i]))
		case api.DDict:
			items = append(items, blanks(r)+spellBytes(r, d.Keys[i])+blanks(r)+":"+spell(r, d.Kids[i]))
		default:
			items = append(items, spell(r, d.Kids[len(items)]))
		}
	}
	s := strings.Join(items, ",") + blanks(r)
	switch d.Kind {
	case api.DRec:
		s = "{" + s + "}"
	case api.DDict:
		s = "<" + s + ">"
	case api.DList:
		s = "[" + s + "]"
	case api.DInt:
		s = fmt.Sprint(d.Num)
	case api.DBool:
		s = fmt.Sprint(d.Num == 1)
	default:
		s = spellBytes(r, d.Str)
	}
	return blanks(r) + s + blanks(r)
}

func blanks(r *rand.Rand) string {
	s := ""
	for range r.IntN(3) {
		s += []string{" ", "\t", "\n", "\r"}[r.IntN(4)]
	}
	return s
}

func spellBytes(r *rand.Rand, s string) string {
	w := ""
	for i := range len(s) {
		c := s[i]
		switch {
		case c < 32 || c > 126 || r.IntN(3) == 0:
			w += fmt.Sprintf("\\x%02x", c)
		case c == '"' || c == '\\':
			w += "\\" + string(c)
		default:
			w += string(c)
		}
	}
	return "\"" + w + "\""
}

// wrong is a text, where it is wrong, and how.
type wrong struct {
	s   string
	at  int
	err api.Errno
}

func wantWrong(t *testing.T, l []wrong) {
	t.Helper()
	for _, x := range l {
		d, at, err := text.Parse(x.s)
		if at != x.at || err != x.err {
			t.Errorf("%s: %v at %d, not %v at %d", short(x.s), err, at, x.err, x.at)
		}
		wantDoc(t, short(x.s), d, api.Doc{})
	}
}

func TestP2_3Form(t *testing.T) {
	wantWrong(t, []wrong{
		{"", 0, api.ErrForm},
		{" \n ", 3, api.ErrForm},
		{"?", 0, api.ErrForm},
		{" x", 1, api.ErrForm},
		{"\x00", 0, api.ErrForm},
		{"1 2", 2, api.ErrForm},
		{"1,", 1, api.ErrForm},
		{"[1,]", 3, api.ErrForm},
		{"[1, ]", 4, api.ErrForm},
		{"[,1]", 1, api.ErrForm},
		{"[1 2]", 3, api.ErrForm},
		{"[1", 2, api.ErrForm},
		{"[1 ", 3, api.ErrForm},
		{"[1,", 3, api.ErrForm},
		{"[", 1, api.ErrForm},
		{"]", 0, api.ErrForm},
		{"[}", 1, api.ErrForm},
		{"[1}", 2, api.ErrForm},
		{"[]]", 2, api.ErrForm},
		{"{", 1, api.ErrForm},
		{"{a", 2, api.ErrForm},
		{"{a}", 2, api.ErrForm},
		{"{a:1}", 2, api.ErrForm},
		{"{a=}", 3, api.ErrForm},
		{"{a=1,}", 5, api.ErrForm},
		{"{a=1;b=2}", 4, api.ErrForm},
		{"{\"a\"=1}", 1, api.ErrForm},
		{"{A=1}", 1, api.ErrForm},
		{"{_a=1}", 1, api.ErrForm},
		{"{1=1}", 1, api.ErrForm},
		{"{aB=1}", 2, api.ErrForm},
		{"{a b=1}", 3, api.ErrForm},
		{"<a:1>", 1, api.ErrForm},
		{"<\"a\"=1>", 4, api.ErrForm},
		{"<\"a\":1,>", 7, api.ErrForm},
		{"<\"a\":>", 5, api.ErrForm},
		{"<1:1>", 1, api.ErrForm},
		{"t", 1, api.ErrForm},
		{"tru", 3, api.ErrForm},
		{"trux", 3, api.ErrForm},
		{"truee", 4, api.ErrForm},
		{"true false", 5, api.ErrForm},
		{"fals e", 4, api.ErrForm},
		{"True", 0, api.ErrForm},
		{"null", 0, api.ErrForm},
		{"-", 1, api.ErrForm},
		{"--1", 1, api.ErrForm},
		{"-0", 1, api.ErrForm},
		{"-01", 1, api.ErrForm},
		{"- 1", 1, api.ErrForm},
		{"+1", 0, api.ErrForm},
		{"01", 1, api.ErrForm},
		{"00", 1, api.ErrForm},
		{"[1, 02]", 5, api.ErrForm},
		{"1a", 1, api.ErrForm},
		{"1.5", 1, api.ErrForm},
		{"\"", 1, api.ErrForm},
		{"\"a", 2, api.ErrForm},
		{"\"a\\", 3, api.ErrForm},
		{"\"a\\q\"", 3, api.ErrForm},
		{"\"a\\n\"", 3, api.ErrForm},
		{"\"\\x\"", 3, api.ErrForm},
		{"\"\\x0\"", 4, api.ErrForm},
		{"\"\\x0g\"", 4, api.ErrForm},
		{"\"\\xA0\"", 3, api.ErrForm},
		{"\"\\x0A\"", 4, api.ErrForm},
		{"\"\\x0", 4, api.ErrForm},
		{"\"a\nb\"", 2, api.ErrForm},
		{"\"a\x7f\"", 2, api.ErrForm},
		{"\"a\xc3\xa4\"", 2, api.ErrForm},
		{"\"a\"\"b\"", 3, api.ErrForm},
		{"'a'", 0, api.ErrForm},
		{"\xef\xbb\xbf1", 0, api.ErrForm},
		{"1\v", 1, api.ErrForm},
		{"1\xa0", 1, api.ErrForm},
	})
}

func TestP2_3Twice(t *testing.T) {
	wantWrong(t, []wrong{
		{"{a = 1, a = 2}", 8, api.ErrTwice},
		{"{a=1,b=2,a", 9, api.ErrTwice},
		{"{b=1,a=2,b?", 9, api.ErrTwice},
		{"{a=1,ab=2,abc=3, ab =4}", 17, api.ErrTwice},
		{"[{a=1},{a=1,a=1}]", 12, api.ErrTwice},
		{"{a={a=1},b={a=1,a=?}}", 16, api.ErrTwice},
		{"{a=1,a!", 5, api.ErrTwice},
		{"<\"k\": 1, \"k\": 1>", 9, api.ErrTwice},
		{"<\"a\":1,\"\\x61\":2>", 7, api.ErrTwice},
		{"<\"\":1,\"a\":2,\"\"", 12, api.ErrTwice},
		{"<\"a\":1,\"a", 9, api.ErrForm},
		{"<\"a\":1,\"a\\q\":2>", 10, api.ErrForm},
		{"{a=1,=2,a=3}", 5, api.ErrForm},
		{"{a=01,a=3}", 4, api.ErrForm},
		{"{a=1 a=3}", 5, api.ErrForm},
	})
}

func TestP2_3RangeOfNumbers(t *testing.T) {
	wantWrong(t, []wrong{
		{"9223372036854775808", 0, api.ErrRange},
		{"-9223372036854775809", 0, api.ErrRange},
		{" 18446744073709551616 ", 1, api.ErrRange},
		{"[1, 99999999999999999999x", 4, api.ErrRange},
		{"[1x, 99999999999999999999]", 2, api.ErrForm},
		{"0" + strings.Repeat("9", 30), 1, api.ErrForm},
		{"-0" + strings.Repeat("9", 30), 1, api.ErrForm},
		{strings.Repeat("1", api.MaxText), 0, api.ErrRange},
	})
}

func TestP2_3RangeOfBytes(t *testing.T) {
	brim := strings.Repeat("a", api.MaxBytes)
	coded := strings.Repeat("\\x0a", api.MaxBytes)
	for s, want := range map[string]api.Doc{
		"\"" + brim + "\"":      str(brim),
		"\"" + coded + "\"":     str(strings.Repeat("\n", api.MaxBytes)),
		"<\"" + brim + "\":1>":  dict(keys(brim), num(1)),
		"<\"" + coded + "\":1>": dict(keys(strings.Repeat("\n", api.MaxBytes)), num(1)),
	} {
		d, at, err := text.Parse(s)
		if at != len(s) || err != api.OK {
			t.Errorf("%s: %v at %d", short(s), err, at)
		}
		wantDoc(t, short(s), d, want)
	}
	wantWrong(t, []wrong{
		{"\"" + brim + "a\"", 0, api.ErrRange},
		{" \"" + coded + "\\x0a\"", 1, api.ErrRange},
		{"\"" + strings.Repeat("a", api.MaxText-2) + "\"", 0, api.ErrRange},
		{"[1, \"" + brim + "\\\"\"?", 4, api.ErrRange},
		{"<\"" + brim + "a\":1>", 1, api.ErrRange},
		{"<\"a\":1,\"" + brim + "a\"?", 7, api.ErrRange},
		{"\"" + brim + "a", len(brim) + 2, api.ErrForm},
		{"\"" + brim + "a\\q\"", len(brim) + 3, api.ErrForm},
		{"\"" + brim + "a\n\"", len(brim) + 2, api.ErrForm},
	})
}

func TestP2_3RangeOfNames(t *testing.T) {
	brim := strings.Repeat("a", api.MaxName)
	d, at, err := text.Parse("{" + brim + "=1}")
	if at != len(brim)+4 || err != api.OK {
		t.Errorf("%v at %d", err, at)
	}
	wantDoc(t, brim, d, rec(keys(brim), num(1)))
	wantWrong(t, []wrong{
		{"{" + brim + "a=1}", 1, api.ErrRange},
		{"{" + brim + "_", 1, api.ErrRange},
		{"{a=1, " + brim + "9?", 6, api.ErrRange},
		{"{" + brim + "=1," + brim + "a=1}", len(brim) + 4, api.ErrRange},
		{"{" + brim + "=1," + brim + "=1}", len(brim) + 4, api.ErrTwice},
		{"{" + brim + "A=1}", len(brim) + 1, api.ErrForm},
		{"{A" + brim + "=1}", 1, api.ErrForm},
	})
}

// down opens n lists, records or dictionaries within one another, and closes them behind what stands within.
func down(open, end string, n int, within string) string {
	return strings.Repeat(open, n) + within + strings.Repeat(end, n)
}

func TestP2_3Deep(t *testing.T) {
	const most = api.MaxDepth
	for _, s := range []string{
		down("[", "]", most, ""),
		down("[", "]", most-1, "1"),
		down("[", "]", most-1, "{}"),
		down("{a=", "}", most-1, "<>"),
		down("<\"\":", ">", most-1, "true, \"a\":[]"),
		"[1," + down("[", "]", most-1, "") + ",2]",
	} {
		if d, at, err := text.Parse(s); at != len(s) || err != api.OK || text.Print(d) == "?" {
			t.Errorf("%s: %v at %d", s, err, at)
		}
	}
	for _, x := range []string{"1", "-1", "[]", "{}", "<>", "true", "false", "\"a\"", "[", "{", "<", "99999999999999999999", "\"" + strings.Repeat("a", api.MaxBytes+1) + "\"", "{a=1,a=2}", "[[[x"} {
		wantWrong(t, []wrong{
			{down("[", "]", most, x), most, api.ErrDeep},
			{down("[ ", "]", most, " "+x), 2*most + 1, api.ErrDeep},
			{down("{a=", "}", most, x), 3 * most, api.ErrDeep},
			{down("<\"\":", ">", most, x), 4 * most, api.ErrDeep},
			{"[1, " + down("[", "]", most-1, x), most + 3, api.ErrDeep},
			{down("[", "", most-1, "[],["+x), most + 3, api.ErrDeep},
		})
	}
	wantWrong(t, []wrong{
		{down("[", "", most, ""), most, api.ErrForm},
		{down("[", "", most, "?"), most, api.ErrForm},
		{down("{a=", "", most, "}"), 3 * most, api.ErrForm},
		{down("[", "", most, "}"), most, api.ErrForm},
		{strings.Repeat("[", api.MaxText), most, api.ErrDeep},
		{strings.Repeat("[", most-1) + "?" + strings.Repeat("[", most), most - 1, api.ErrForm},
		{"[" + strings.Repeat("[],", 20) + "01]", 62, api.ErrForm},
	})
}

func TestP2_3Parts(t *testing.T) {
	const most = api.MaxParts
	ones := strings.Repeat("1,", most-2) // with a list around, one part is left
	for _, s := range []string{"[" + ones + "1]", "[" + ones + "[]]", "[" + strings.Repeat("1,", most-3) + "[1]]", "[" + strings.Repeat("[1],", most/2-1) + "1]"} {
		if d, at, err := text.Parse(s); at != len(s) || err != api.OK || strings.ReplaceAll(text.Print(d), " ", "") != s {
			t.Errorf("%s: %v at %d", short(s), err, at)
		}
	}
	for _, x := range []string{"1", "[]", "{", "true", "99999999999999999999", "\"a\"", "-1"} {
		wantWrong(t, []wrong{
			{"[" + ones + "1," + x + "]", len(ones) + 3, api.ErrFull},
			{"[" + ones + "1, " + x + "]", len(ones) + 4, api.ErrFull},
			{"[" + ones + "[" + x + "]]", len(ones) + 2, api.ErrFull},
			{"[" + ones + "{a=" + x + "}]", len(ones) + 4, api.ErrFull},
			{"[" + ones + "<\"a\":" + x + ">]", len(ones) + 6, api.ErrFull},
			{"[" + ones + "1," + x + "," + x + "]", len(ones) + 3, api.ErrFull},
		})
	}
	wantWrong(t, []wrong{
		{"[" + ones + "1,?]", len(ones) + 3, api.ErrForm},
		{"[" + ones + "1,]", len(ones) + 3, api.ErrForm},
		{"[" + ones + "1,", len(ones) + 3, api.ErrForm},
		{"[" + ones + "1?,1]", len(ones) + 2, api.ErrForm},
		{"[" + ones[:2*(most-13)] + down("[", "]", api.MaxDepth-1, "1") + "]", 1 + 2*(most-13) + api.MaxDepth - 1, api.ErrDeep},
		{"[" + ones[:2*(most-12)] + down("[", "]", api.MaxDepth-1, "1") + "]", 1 + 2*(most-12) + api.MaxDepth - 1, api.ErrDeep},
		{"[" + ones[:2*(most-11)] + down("[", "]", api.MaxDepth-1, "1") + "]", 1 + 2*(most-11) + api.MaxDepth - 2, api.ErrFull},
	})
}

func TestP2_3LongTexts(t *testing.T) {
	const most = api.MaxText
	pad := func(n int) string { return strings.Repeat(" ", n) }
	for _, s := range []string{pad(most-1) + "1", "1" + pad(most-1), "[" + pad(most-2) + "]", pad(most-19) + "9223372036854775807"} {
		if _, at, err := text.Parse(s); at != most || err != api.OK {
			t.Errorf("%s: %v at %d", short(s), err, at)
		}
	}
	brim, over := strings.Repeat("a", api.MaxBytes), strings.Repeat("9", 20)
	wantWrong(t, []wrong{
		{pad(most), most, api.ErrForm},
		{"[" + pad(most-1), most, api.ErrForm},
		{pad(most + 1), most, api.ErrFull},
		{"1" + pad(most), most, api.ErrFull},
		{pad(most) + "1", most, api.ErrFull},
		{pad(most) + "?", most, api.ErrFull},
		{pad(most) + over, most, api.ErrFull},
		{pad(most+1) + "?", most, api.ErrFull},
		{pad(1<<20) + "1", most, api.ErrFull},
		{pad(most-1) + "12", most, api.ErrFull},
		{pad(most-2) + "true", most, api.ErrFull},
		{pad(most-2) + "tr??", most, api.ErrFull},
		{pad(most-2) + "\"a\"", most, api.ErrFull},
		{pad(most-2) + "\"a", most, api.ErrForm},
		{"\"" + strings.Repeat("a", most), most, api.ErrFull},
		{down("[", "", api.MaxDepth, pad(most-api.MaxDepth)) + "1", most, api.ErrFull},
		// What is wrong ahead of that place is the first from the front.
		{"?" + pad(most), 0, api.ErrForm},
		{pad(most-1) + "??", most - 1, api.ErrForm},
		{pad(most-2) + "t??", most - 1, api.ErrForm},
		{"{a=1,a=2}" + pad(most), 5, api.ErrTwice},
		{strings.Repeat("[", most+1), api.MaxDepth, api.ErrDeep},
		{strings.Repeat("9", most+1), 0, api.ErrRange},
		{pad(most-1) + over, most - 1, api.ErrRange},
		{pad(most-1) + "\"" + brim + "a\"", most - 1, api.ErrRange},
		{"{" + pad(most-2) + brim, most - 1, api.ErrRange},
		{"[" + strings.Repeat("1,", most) + "1]", 1 + 2*(api.MaxParts-1), api.ErrFull},
	})
}

func TestP2_3NoTextPanics(t *testing.T) {
	r := rand.New(rand.NewPCG(7, 8))
	for range 20000 {
		l := make([]byte, r.IntN(12))
		for i := range l {
			l[i] = byte(r.IntN(256))
		}
		wantForm(t, string(l))
	}
}
