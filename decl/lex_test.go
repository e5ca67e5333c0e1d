package decl_test

import (
	"math/rand/v2"
	"regexp"
	"slices"
	"strconv"
	"strings"
	"testing"

	"cabochon/api"
	"cabochon/decl"
	"cabochon/text"
)

// allWords is the words as P6.1 lists them.
var allWords = []string{"dict", "list", "of", "int", "bool", "bytes", "enum", "rename", "to", "add", "remove", "hoist", "plunge", "wrap", "head", "convert", "in", "map", "out"}

func TestP6_1Word(t *testing.T) {
	l := []string{"", " ", "a", "true", "false", "rec", "bytes_", "doc", "for", "into", "outof", "dict list", "{", "0"}
	for _, w := range allWords {
		l = append(l, w, w+"s", w+"_", w+"0", w+" ", w+"\x00", " "+w, w+w, w[1:], w[:len(w)-1], strings.ToUpper(w), strings.ToUpper(w[:1])+w[1:])
		for _, v := range allWords {
			l = append(l, w+v, w+" "+v)
		}
	}
	for _, s := range l {
		if decl.Word(s) != slices.Contains(allWords, s) {
			t.Errorf("%q: %v", s, decl.Word(s))
		}
	}
}

func TestP6_1Lex(t *testing.T) {
	for s, want := range map[string][]api.Token{
		"":                     nil,
		" \t\n\r ":             nil,
		"a":                    {name("a")},
		"a_0z9_":               {name("a_0z9_")},
		"abcdefghijklmnop":     {name("abcdefghijklmnop")},
		"dict":                 {name("dict")},
		"true":                 {name("true")},
		"a b":                  {name("a"), at(2, name("b"))},
		"a\tb\nc\rd":           {name("a"), at(2, name("b")), at(4, name("c")), at(6, name("d"))},
		" a ":                  {at(1, name("a"))},
		"0":                    {integer("0")},
		"10":                   {integer("10")},
		"-10":                  {integer("-10")},
		"00":                   {integer("0"), at(1, integer("0"))},
		"012":                  {integer("0"), at(1, integer("12"))},
		"1-1":                  {integer("1"), at(1, integer("-1"))},
		"0-1":                  {integer("0"), at(1, integer("-1"))},
		"1a":                   {integer("1"), at(1, name("a"))},
		"a1":                   {name("a1")},
		"a-1":                  {name("a"), at(1, integer("-1"))},
		"9223372036854775807":  {integer("9223372036854775807")},
		"-9223372036854775808": {integer("-9223372036854775808")},
		"\"\"":                 {quoted("\"\"")},
		"\"a b\"":              {quoted("\"a b\"")},
		"\"\\\"\\\\\\x0a\"":    {quoted("\"\\\"\\\\\\x0a\"")},
		"\"\\\\\"\"\"":         {quoted("\"\\\\\""), at(4, quoted("\"\""))},
		"\"a\"b\"c\"":          {quoted("\"a\""), at(3, name("b")), at(4, quoted("\"c\""))},
		"\"{ -> 01\"":          {quoted("\"{ -> 01\"")},
		"\"\\x61\"":            {quoted("\"\\x61\"")},
		"{}":                   {sign("{"), at(1, sign("}"))},
		"(),:?..=->;":          {sign("("), at(1, sign(")")), at(2, sign(",")), at(3, sign(":")), at(4, sign("?")), at(5, sign("..")), at(7, sign("=")), at(8, sign("->")), at(10, sign(";"))},
		"....":                 {sign(".."), at(2, sign(".."))},
		"->->":                 {sign("->"), at(2, sign("->"))},
		"-7->-7":               {integer("-7"), at(2, sign("->")), at(4, integer("-7"))},
		"0..1":                 {integer("0"), at(1, sign("..")), at(3, integer("1"))},
		"int(-3 .. 9)":         {name("int"), at(3, sign("(")), at(4, integer("-3")), at(7, sign("..")), at(10, integer("9")), at(11, sign(")"))},
		"{n?: bool}":           {sign("{"), at(1, name("n")), at(2, sign("?")), at(3, sign(":")), at(5, name("bool")), at(9, sign("}"))},
		"convert a (1 -> 2);":  {name("convert"), at(8, name("a")), at(10, sign("(")), at(11, integer("1")), at(13, sign("->")), at(16, integer("2")), at(17, sign(")")), at(18, sign(";"))},
		"add a: bool = true":   {name("add"), at(4, name("a")), at(5, sign(":")), at(7, name("bool")), at(12, sign("=")), at(14, name("true"))},
		"a->\"b\"..01 -7":      {name("a"), at(1, sign("->")), at(3, quoted("\"b\"")), at(6, sign("..")), at(8, integer("0")), at(9, integer("1")), at(11, integer("-7"))},
	} {
		l, end, err := decl.Lex(s)
		if end != len(s) || err != api.OK {
			t.Errorf("%q: %v at %d", s, err, end)
		}
		wantTokens(t, s, l, want)
	}
}

// wrong is a text, where it is wrong, and how.
type wrong struct {
	s   string
	at  int
	err api.Errno
}

func wantNoTokens(t *testing.T, l []wrong) {
	t.Helper()
	for _, x := range l {
		got, at, err := decl.Lex(x.s)
		if len(got) != 0 || at != x.at || err != x.err {
			t.Errorf("%q: %v at %d, not %v at %d; %d tokens", short(x.s), err, at, x.err, x.at, len(got))
		}
	}
}

func TestP6_1LexForm(t *testing.T) {
	wantNoTokens(t, []wrong{
		{"$", 0, api.ErrForm},
		{"a $", 2, api.ErrForm},
		{"a$", 1, api.ErrForm},
		{"A", 0, api.ErrForm},
		{"aA", 1, api.ErrForm},
		{"_a", 0, api.ErrForm},
		{"1_", 1, api.ErrForm},
		{".", 0, api.ErrForm},
		{"...", 2, api.ErrForm},
		{". .", 0, api.ErrForm},
		{"0.5", 1, api.ErrForm},
		{"-", 0, api.ErrForm},
		{"a -", 2, api.ErrForm},
		{"-0", 0, api.ErrForm},
		{"-01", 0, api.ErrForm},
		{"- 1", 0, api.ErrForm},
		{"- >", 0, api.ErrForm},
		{"--1", 0, api.ErrForm},
		{"-->", 0, api.ErrForm},
		{"-a", 0, api.ErrForm},
		{"1 -", 2, api.ErrForm},
		{"->>", 2, api.ErrForm},
		{">", 0, api.ErrForm},
		{"<", 0, api.ErrForm},
		{"+1", 0, api.ErrForm},
		{"[", 0, api.ErrForm},
		{"]", 0, api.ErrForm},
		{"!", 0, api.ErrForm},
		{"'a'", 0, api.ErrForm},
		{"\"", 0, api.ErrForm},
		{"a \"", 2, api.ErrForm},
		{"\"a", 0, api.ErrForm},
		{"\"a\\", 0, api.ErrForm},
		{"\"a\\\"", 0, api.ErrForm},
		{"\"a\" \"", 4, api.ErrForm},
		{"\"\\q\"", 0, api.ErrForm},
		{"a \"b\\n\"", 2, api.ErrForm},
		{"\"\\x\"", 0, api.ErrForm},
		{"\"\\x0\"", 0, api.ErrForm},
		{"\"\\x0A\"", 0, api.ErrForm},
		{"\"a\nb\"", 0, api.ErrForm},
		{"\"a\x7fb\" c", 0, api.ErrForm},
		{"\"\x80\"", 0, api.ErrForm},
		{"\v", 0, api.ErrForm},
		{"a\fb", 1, api.ErrForm},
		{"a\x00", 1, api.ErrForm},
		{"\xa0", 0, api.ErrForm},
		{"\xc3\xa4", 0, api.ErrForm},
		{"\xef\xbb\xbfa", 0, api.ErrForm},
		{"a $ -", 2, api.ErrForm},
	})
}

func TestP6_1LexRange(t *testing.T) {
	brim, coded := strings.Repeat("a", api.MaxBytes), strings.Repeat("\\x0a", api.MaxBytes)
	word := strings.Repeat("a", api.MaxName)
	for _, s := range []string{word, "\"" + brim + "\"", "\"" + coded + "\"", "\"" + strings.Repeat("\\\"", api.MaxBytes) + "\""} {
		l, end, err := decl.Lex(s)
		if end != len(s) || err != api.OK || len(l) != 1 || l[0].Text != s {
			t.Errorf("%s: %v at %d", short(s), err, end)
		}
	}
	wantNoTokens(t, []wrong{
		{word + "a", 0, api.ErrRange},
		{word + "_", 0, api.ErrRange},
		{word + "9", 0, api.ErrRange},
		{word + "9$", 0, api.ErrRange},
		{word + "$", len(word), api.ErrForm},
		{word + "A", len(word), api.ErrForm},
		{"a " + word + "a", 2, api.ErrRange},
		{strings.Repeat("a", api.MaxText), 0, api.ErrRange},
		{"9223372036854775808", 0, api.ErrRange},
		{"-9223372036854775809", 0, api.ErrRange},
		{"0 18446744073709551616 ", 2, api.ErrRange},
		{"018446744073709551616", 1, api.ErrRange},
		{"99999999999999999999x$", 0, api.ErrRange},
		{"-0" + strings.Repeat("9", 30), 0, api.ErrForm},
		{strings.Repeat("1", api.MaxText), 0, api.ErrRange},
		{"\"" + brim + "a\"", 0, api.ErrRange},
		{"a \"" + coded + "\\x0a\"", 2, api.ErrRange},
		{"\"" + brim + "a\"$", 0, api.ErrRange},
		{"\"" + brim + "a", 0, api.ErrForm},
		{"\"" + brim + "a\\q\"", 0, api.ErrForm},
		{"\"" + strings.Repeat("a", api.MaxText-2) + "\"", 0, api.ErrRange},
		// The first of several.
		{"$ " + word + "a", 0, api.ErrForm},
		{word + "a $", 0, api.ErrRange},
		{"1 9223372036854775808 $", 2, api.ErrRange},
		{"1 \"\\q\" 9223372036854775808", 2, api.ErrForm},
	})
}

func TestP6_1LexOfLongTexts(t *testing.T) {
	const most = api.MaxText
	for _, s := range []string{strings.Repeat(" ", most), strings.Repeat("{", most), strings.Repeat("a ", most/2), strings.Repeat(" ", most-3) + "\"\"0"} {
		if l, end, err := decl.Lex(s); end != most || err != api.OK || len(l) != most-strings.Count(s, " ")-strings.Count(s, "\"")/2 {
			t.Errorf("%s: %d tokens, %v at %d", short(s), len(l), err, end)
		}
	}
	for _, s := range []string{strings.Repeat(" ", most+1), strings.Repeat("{", most+1), "$" + strings.Repeat(" ", most), strings.Repeat("a", most+1), strings.Repeat(" ", most) + "$", strings.Repeat("\"", most+1), strings.Repeat("9", 1<<20)} {
		wantNoTokens(t, []wrong{{s, most, api.ErrFull}})
	}
}

// The tokens, as P6.1 tells them; the two-byte signs come first.
var tokens = []struct {
	kind int
	is   *regexp.Regexp
}{
	{api.TokName, regexp.MustCompile(`^[a-z][a-z0-9_]*`)},
	{api.TokInt, regexp.MustCompile(`^(0|-?[1-9][0-9]*)`)},
	{api.TokBytes, regexp.MustCompile(`^"([ !#-\[\]-~]|\\"|\\\\|\\x[0-9a-f][0-9a-f])*"`)},
	{api.TokSign, regexp.MustCompile(`^(\.\.|->|[{}(),:?=;])`)},
}

// lexed is what Lex is to tell of s, by these.
func lexed(s string) ([]api.Token, int, api.Errno) {
	var l []api.Token
	for at := 0; at < len(s); {
		if strings.IndexByte(" \t\n\r", s[at]) >= 0 {
			at++
			continue
		}
		x := api.Token{At: at}
		for _, c := range tokens {
			if m := c.is.FindString(s[at:]); m != "" {
				x.Kind, x.Text = c.kind, m
			}
		}
		if x.Kind == 0 {
			return nil, at, api.ErrForm
		}
		_, err := strconv.Atoi(x.Text)
		if bytes, _ := text.Unquote(x.Text); x.Kind == api.TokName && len(x.Text) > api.MaxName || x.Kind == api.TokInt && err != nil || len(bytes) > api.MaxBytes {
			return nil, at, api.ErrRange
		}
		l = append(l, x)
		at += len(x.Text)
	}
	return l, len(s), api.OK
}

// wantLexed holds Lex to that, and tells whether s is tokens.
func wantLexed(t *testing.T, s string) bool {
	t.Helper()
	l, at, err := decl.Lex(s)
	want, wantAt, wantErr := lexed(s)
	if at != wantAt || err != wantErr {
		t.Errorf("%q: %v at %d, not %v at %d", s, err, at, wantErr, wantAt)
	}
	wantTokens(t, s, l, want)
	return err == api.OK
}

func TestP6_1LexOfShortTexts(t *testing.T) {
	for bytes, long := range map[string]int{
		"a_09A":        5,
		"-+01>. a":     5,
		"\"\\x0fq\n":   6,
		"{}(),:?.=->;": 4,
	} {
		taken := 0
		var grow func(s string)
		grow = func(s string) {
			if wantLexed(t, s) {
				taken++
			}
			for i := range len(bytes) {
				if len(s) < long {
					grow(s + bytes[i:i+1])
				}
			}
		}
		grow("")
		if taken < 50 {
			t.Errorf("%q: only %d are tokens", bytes, taken)
		}
	}
}

func TestP6_1LexOfEachByte(t *testing.T) {
	for c := range 256 {
		one := string([]byte{byte(c)})
		for _, s := range []string{"@", "@a", "a@", "a@b", "a @ b", "0@", "1@", "@0", "-@", "-@1", "-1@", "\"@\"", "\"\\@\"", "\"\\x@0\"", "\"\\x0@\"", "\"@", "\"\\@", ".@", "..@", "->@", "{@", "?@:"} {
			wantLexed(t, strings.ReplaceAll(s, "@", one))
		}
	}
}

// TestP6_1LexOfSpoiltTexts spoils what was printed.
func TestP6_1LexOfSpoiltTexts(t *testing.T) {
	r := rand.New(rand.NewPCG(3, 4))
	const bytes = "{}(),:?.=->;\"\\x019_tfa \n\x00\x7f\xff$"
	taken, all := 0, 0
	for _, x := range randoms(500) {
		s := decl.Print(x)
		for range 10 {
			i, c := r.IntN(len(s)), bytes[r.IntN(len(bytes))]
			for _, y := range []string{s[:i], s[i:], s[:i] + s[i+1:], s[:i] + string([]byte{c}) + s[i:], s[:i] + string([]byte{c}) + s[i+1:]} {
				all++
				if len(y) < 500 && wantLexed(t, y) {
					taken++
				}
			}
		}
	}
	if taken < all/10 || taken > all*9/10 {
		t.Errorf("%d of %d are tokens", taken, all)
	}
}
