package text_test

import (
	"fmt"
	"slices"
	"strings"
	"testing"

	"cabochon/api"
	"cabochon/doc"
	"cabochon/text"
)

func TestP2_1QuoteOfEachByte(t *testing.T) {
	for c := range 256 {
		one := string([]byte{byte(c)})
		want := fmt.Sprintf("\\x%02x", c)
		switch {
		case c == '"' || c == '\\':
			want = "\\" + one
		case 32 <= c && c <= 126:
			want = one
		}
		for _, s := range []string{"", "a", "\"", "\xff"} {
			around := strings.Trim(text.Quote(s), "\"")
			if s == "\"" {
				around = "\\\""
			}
			if got := text.Quote(s + one + s); got != "\""+around+want+around+"\"" {
				t.Errorf("Quote(%q) is %s", s+one+s, got)
			}
		}
		if got, is := text.Unquote("\"" + want + "\""); got != one || !is {
			t.Errorf("Unquote of %q: %q, %v", want, got, is)
		}
		if got, is := text.Unquote(fmt.Sprintf("\"\\x%02x\"", c)); got != one || !is {
			t.Errorf("Unquote of byte %d: %q, %v", c, got, is)
		}
		if got, is := text.Unquote("\"" + one + "\""); is != (want == one) || is && got != one || !is && got != "" {
			t.Errorf("Unquote of byte %d as it is: %q, %v", c, got, is)
		}
	}
}

func TestP2_1Quote(t *testing.T) {
	for s, want := range map[string]string{
		"":               `""`,
		"a":              `"a"`,
		" a b ":          `" a b "`,
		"\"\"":           `"\"\""`,
		"\\x41":          `"\\x41"`,
		"\x00\n\r\t":     `"\x00\x0a\x0d\x09"`,
		"~\x7f\x80\xff":  `"~\x7f\x80\xff"`,
		"\u00e4\u20ac":   `"\xc3\xa4\xe2\x82\xac"`,
		"\xc3(\xab\xcd'": `"\xc3(\xab\xcd'"`,
	} {
		if got := text.Quote(s); got != want {
			t.Errorf("Quote(%q) is %s, not %s", s, got, want)
		}
		if got, is := text.Unquote(want); got != s || !is {
			t.Errorf("Unquote(%s) is %q, %v", want, got, is)
		}
	}
}

func TestP2_1QuoteOfLong(t *testing.T) {
	long := strings.Repeat("a\xff\"", 1<<16)
	got, is := text.Unquote(text.Quote(long))
	if got != long || !is {
		t.Errorf("%d bytes, %v: there is no limit of what is quoted", len(got), is)
	}
}

func TestP2_1Unquote(t *testing.T) {
	for _, s := range []string{"", "\"", "\"a", "a\"", "a", "'a'", " \"a\"", "\"a\" ", "\"a\"\"", "\"a\"\"b\"", "\"\\\"", "\"\\", "\"\\x\"", "\"\\x4\"", "\"\\x4", "\"\\x4g\"", "\"\\xg4\"", "\"\\x4A\"", "\"\\X41\"", "\"\\n\"", "\"\\0\"", "\"\\u0041\"", "\"\n\"", "\"\x7f\"", "\"\xc3\xa4\"", "\"\x00\"", "1", "true", "[]"} {
		if got, is := text.Unquote(s); got != "" || is {
			t.Errorf("Unquote(%q) is %q, %v", s, got, is)
		}
	}
	for s, want := range map[string]string{`""`: "", `"\x61"`: "a", `"\x5c\x22"`: "\\\"", `"\\x61"`: "\\x61", `"\"\\"`: "\"\\", `"\x611"`: "a1"} {
		if got, is := text.Unquote(s); got != want || !is {
			t.Errorf("Unquote(%q) is %q, %v", s, got, is)
		}
	}
}

func TestP2_1Number(t *testing.T) {
	for s, want := range map[string]int{
		"0": 0, "1": 1, "9": 9, "10": 10, "-1": -1, "-9": -9, "-10": -10, "1234567890": 1234567890,
		"9223372036854775807": api.MaxInt, "9223372036854775806": api.MaxInt - 1, "-9223372036854775808": api.MinInt, "-9223372036854775807": api.MinInt + 1,
	} {
		if got, is := text.Number(s); got != want || !is {
			t.Errorf("Number(%q) is %d, %v", s, got, is)
		}
	}
	for _, s := range []string{
		"", "-", "--1", "+1", "-0", "00", "01", "-01", "007", " 1", "1 ", "1\n", "1_000", "0x1", "1e3", "1.0", "a", "1a", "true", "\"1\"", "\xd9\xa1",
		"9223372036854775808", "-9223372036854775809", "18446744073709551616", "18446744073709551617", "99999999999999999999", "-99999999999999999999",
		strings.Repeat("9", 1<<16), "-" + strings.Repeat("1", 1<<16), "1" + strings.Repeat("0", 64),
	} {
		if got, is := text.Number(s); got != 0 || is {
			t.Errorf("Number(%s) is %d, %v", short(s), got, is)
		}
	}
}

func TestP2_2Print(t *testing.T) {
	for _, c := range []struct {
		d    api.Doc
		want string
	}{
		{rec(nil), "{}"},
		{rec(keys("a"), num(1)), "{a = 1}"},
		{rec(keys("a", "b", "c"), num(1), rec(nil), yes()), "{a = 1, b = {}, c = true}"},
		{dict([]string{}), "<>"},
		{dict(keys("a"), num(1)), `<"a": 1>`},
		{dict(keys("", "\"", "\x00"), num(1), dict(nil), no()), `<"": 1, "\"": <>, "\x00": false>`},
		{list(), "[]"},
		{list(num(1)), "[1]"},
		{list(num(1), list(num(2), num(3)), str("a, b")), `[1, [2, 3], "a, b"]`},
		{num(0), "0"},
		{num(-1), "-1"},
		{num(api.MaxInt), "9223372036854775807"},
		{num(api.MinInt), "-9223372036854775808"},
		{yes(), "true"},
		{no(), "false"},
		{str(""), `""`},
		{str("a\"\\\n\xff"), `"a\"\\\x0a\xff"`},
	} {
		if got := text.Print(c.d); got != c.want {
			t.Errorf("%s is printed %s, not %s", show(c.d), got, c.want)
		}
	}
}

func TestP2_2PrintOfWhatIsNotRight(t *testing.T) {
	for _, c := range []struct {
		d    api.Doc
		want string
	}{
		{api.Doc{}, "?"},
		{api.Doc{Kind: -1}, "?"},
		{api.Doc{Kind: 7, Num: 3, Str: "x", Keys: keys("a"), Kids: []api.Doc{num(1)}}, "?"},
		{api.Doc{Kind: api.MaxInt}, "?"},
		{list(api.Doc{}, num(1), api.Doc{Kind: 9}), "[?, 1, ?]"},
		{rec(keys("a"), api.Doc{}), "{a = ?}"},
		{rec(keys("a", "b"), num(1)), "{a = 1}"},
		{rec(keys("a"), num(1), num(2)), "{a = 1}"},
		{rec(keys("a", "b")), "{}"},
		{rec(nil, num(1)), "{}"},
		{dict(keys("a", "b"), num(1)), `<"a": 1>`},
		{dict(keys("a"), num(1), num(2)), `<"a": 1>`},
		{dict(keys("a")), "<>"},
		{dict(nil, num(1)), "<>"},
		{rec(keys("b", "A b", "b", ""), num(1), num(2), num(3), num(4)), "{b = 1, A b = 2, b = 3,  = 4}"},
		{rec(keys("\"\n"), num(1)), "{\"\n = 1}"},
		{dict(keys("b", "a", "b"), num(1), num(2), num(3)), `<"b": 1, "a": 2, "b": 3>`},
		{api.Doc{Kind: api.DList, Num: 5, Str: "x", Keys: keys("a"), Kids: []api.Doc{num(1), num(2)}}, "[1, 2]"},
		{api.Doc{Kind: api.DInt, Num: 5, Str: "x", Keys: keys("a"), Kids: []api.Doc{num(1)}}, "5"},
		{api.Doc{Kind: api.DBool, Num: 2}, "false"},
		{api.Doc{Kind: api.DBool, Num: -1}, "false"},
		{api.Doc{Kind: api.DBool, Num: 1, Str: "x", Kids: []api.Doc{num(1)}}, "true"},
		{api.Doc{Kind: api.DBytes, Num: 5, Str: "x", Keys: keys("a"), Kids: []api.Doc{num(1)}}, `"x"`},
		{str(strings.Repeat("a", 1000)), `"` + strings.Repeat("a", 1000) + `"`},
	} {
		if got := text.Print(c.d); got != c.want {
			t.Errorf("%s is printed %s, not %s", show(c.d), got, c.want)
		}
	}
}

func TestP2_2PrintOfMuch(t *testing.T) {
	const deep = 1 << 16
	d := list()
	for range deep - 1 {
		d = list(d)
	}
	if text.Print(d) != strings.Repeat("[", deep)+strings.Repeat("]", deep) {
		t.Error("a chain")
	}
	d = list()
	for range 1 << 18 {
		d.Kids = append(d.Kids, num(7))
	}
	if text.Print(d) != "["+strings.Repeat("7, ", 1<<18-1)+"7]" {
		t.Error("a wide one")
	}
}

func TestP2_4PrintOnlyLooks(t *testing.T) {
	d := roomy(rec(keys("a", "b", "c"), list(num(1), list(yes())), dict(keys("x"), list()), str("x\n")))
	before := showRoom(d)
	text.Print(d)
	if showRoom(d) != before {
		t.Error("Print changes what it is given")
	}
}

// TestP2_4ParseAnswersNewMemory spoils an answer and looks whether another one of the same text, or a part beside, is spoilt with it.
func TestP2_4ParseAnswersNewMemory(t *testing.T) {
	for _, d := range append(randoms(100), list(list(), list(), rec(nil), rec(nil), dict(nil)), rec(keys("a", "b"), list(num(1), num(2), num(3)), rec(keys("a", "b", "c"), num(1), num(2), num(3)))) {
		s := text.Print(d)
		first, _, _ := text.Parse(s)
		second, _, _ := text.Parse(s)
		before := showRoom(second)
		scribble(first)
		if showRoom(second) != before {
			t.Errorf("%s: two answers share memory", s)
		}
		if third, _, _ := text.Parse(s); show(third) != show(second) {
			t.Errorf("%s: an answer is kept", s)
		}
		if !apart(second) {
			t.Errorf("%s: parts of an answer share memory", s)
		}
	}
}

func TestP2_5WhatIsRightIsParsedAsItWas(t *testing.T) {
	docs := append(randoms(2000), edges()...)
	if !slices.ContainsFunc(docs, func(d api.Doc) bool { return d.Kind == api.DRec && len(d.Kids) > 2 }) {
		t.Error("no record among them")
	}
	for _, d := range docs {
		s := text.Print(d)
		got, at, err := text.Parse(s)
		if len(s) > api.MaxText {
			if err != api.ErrFull || at != api.MaxText {
				t.Errorf("%s: %d, %v", short(s), at, err)
			}
			continue
		}
		if err != api.OK || at != len(s) {
			t.Errorf("%s: %d, %v", short(s), at, err)
		}
		wantDoc(t, short(s), got, d)
	}
}

// edges is right documents at the limits.
func edges() []api.Doc {
	deep, wide, full := num(1), list(), list()
	for i := range api.MaxDepth - 1 {
		switch i % 3 {
		case 0:
			deep = list(deep)
		case 1:
			deep = rec(keys("a"), deep)
		case 2:
			deep = dict(keys(""), deep)
		}
	}
	for range api.MaxParts - 1 {
		wide.Kids = append(wide.Kids, no())
		full.Kids = append(full.Kids, str(strings.Repeat("\xff", api.MaxBytes)))
	}
	return []api.Doc{
		deep, wide, full,
		str(strings.Repeat("\x00", api.MaxBytes)),
		dict(keys(strings.Repeat("\"", api.MaxBytes)), num(api.MinInt)),
		rec(keys(strings.Repeat("z", api.MaxName)), num(api.MaxInt)),
	}
}

// TestP2_5WhatIsParsedIsRight takes what was not printed: spoilt texts that are still taken.
func TestP2_5WhatIsParsedIsRight(t *testing.T) {
	taken := 0
	for _, d := range randoms(300) {
		s := text.Print(d)
		for i := range len(s) {
			for _, x := range []string{s[:i] + s[i+1:], s[:i] + "1" + s[i+1:], s[:i] + " " + s[i:], s[:i] + "," + s[i+1:], s[:i] + "a" + s[i:]} {
				got, _, err := text.Parse(x)
				if err != api.OK || x == s {
					continue
				}
				taken++
				if !doc.Right(got) {
					t.Errorf("%q: %s is not right", x, show(got))
				}
				again, at, err := text.Parse(text.Print(got))
				if err != api.OK || at != len(text.Print(got)) || show(again) != show(got) {
					t.Errorf("%q: printed and parsed: %s, %v", x, show(again), err)
				}
			}
		}
	}
	if taken < 1000 {
		t.Errorf("only %d were taken", taken)
	}
}
