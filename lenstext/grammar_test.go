package lenstext_test

import (
	"math/rand/v2"
	"regexp"
	"slices"
	"strings"
	"testing"

	"cabochon/api"
	"cabochon/decl"
	"cabochon/lenstext"
	"cabochon/text"
)

// The grammar, as rules: a capital letter is a rule, what else stands there a token, of its class.
var rules = map[byte][]string{
	'L': {"", "S;L"},
	'S': {"rNtN", "aN:Y=V", "vN:Y=V", "kNufN", "pNnN", "wN", "hN", "cN(P)", "nN{L}", "mN{L}"},
	'N': {"x", "y"},
	'P': {"i>iQ"},
	'Q': {"", ",P"},
	'Y': {"d(i.i)", "b", "s(i.i)", "e(E)"},
	'E': {"qG"},
	'G': {"", ",E"},
	'V': {"i", "q", "y"},
}

// The classes of tokens: x is a name, y one that is a value too, i a number, q a byte string.
var (
	inQuotes = map[string]byte{"rename": 'r', "to": 't', "add": 'a', "remove": 'v', "hoist": 'k', "out": 'u', "of": 'f', "plunge": 'p', "in": 'n', "wrap": 'w', "head": 'h', "convert": 'c', "map": 'm', "int": 'd', "bool": 'b', "bytes": 's', "enum": 'e', "dict": '-', "list": '-', "true": 'y', "false": 'y', "->": '>', "..": '.'}
	begins   = "ravkpwhcnm"
	aName    = regexp.MustCompile(`^[a-z]`)
	anInt    = regexp.MustCompile(`^[-0-9]`)
)

func class(x api.Token) byte {
	switch c, is := inQuotes[x.Text]; {
	case is:
		return c
	case aName.MatchString(x.Text):
		return 'x'
	case anInt.MatchString(x.Text):
		return 'i'
	case x.Text[0] == '"':
		return 'q'
	}
	return x.Text[0]
}

// states is all that may come, each as a row of what the rules tell; the first of each is no rule.
type states map[string]bool

// open puts what a row may be instead of its first rule, till none is first.
func (s states) open(row string) {
	if row != "" && 'A' <= row[0] && row[0] <= 'Z' {
		for _, x := range rules[row[0]] {
			s.open(x + row[1:])
		}
		return
	}
	s[row] = true
}

func begin() states {
	s := states{}
	s.open("L")
	return s
}

// next is what may come behind a token of that class.
func (s states) next(c byte) states {
	n := states{}
	for row := range s {
		if row != "" && row[0] == c {
			n.open(row[1:])
		}
	}
	return n
}

// formed is how many tokens of l the grammar has there, and whether they are all, and a whole lens.
func formed(l []api.Token) (int, bool) {
	may := begin()
	for i, x := range l {
		may = may.next(class(x))
		if len(may) == 0 {
			return i, false
		}
	}
	return len(l), may[""]
}

// refused is the first of these tokens, which the grammar has there, that may not be, and why; or how many they are.
func refused(l []api.Token) (int, api.Errno) {
	steps, deep := 0, 0
	var seen map[string]bool
	before := byte(';')
	for i, x := range l {
		c := class(x)
		if (before == ';' || before == '{') && strings.IndexByte(begins, c) >= 0 {
			steps++
			if steps > 64 {
				return i, api.ErrFull
			}
			if deep == 8 && (c == 'n' || c == 'm') {
				return i, api.ErrDeep
			}
		}
		switch c {
		case '{':
			deep++
		case '}':
			deep--
		case '(':
			seen = map[string]bool{}
		case 'q':
			if before == '=' {
				break // a value, of no enum
			}
			s, _ := text.Unquote(x.Text)
			if seen[s] {
				return i, api.ErrTwice
			}
			seen[s] = true
		}
		before = c
	}
	return len(l), api.OK
}

// spelt is the texts of tokens, byte strings as they are printed, in an order that does not hang on theirs.
func spelt(l []api.Token) []string {
	var all []string
	for _, x := range l {
		s := x.Text
		if x.Kind == api.TokBytes {
			s, _ = text.Unquote(s)
			s = text.Quote(s)
		}
		all = append(all, s)
	}
	slices.Sort(all)
	return all
}

// wantGrammar holds Parse to the grammar, and tells the error.
func wantGrammar(t *testing.T, s string) api.Errno {
	t.Helper()
	all, wantAt, wanted := decl.Lex(s)
	if wanted == api.OK {
		place := func(i int) int { return append(slices.Clone(all), api.Token{At: len(s)})[i].At }
		i, is := formed(all)
		wantAt, wanted = place(i), api.ErrForm
		if j, err := refused(all[:i]); err != api.OK {
			wantAt, wanted = place(j), err
		} else if is {
			wanted = api.OK
		}
	}
	l, at, err := lenstext.Parse(s)
	if at != wantAt || err != wanted {
		t.Errorf("%v at %d, not %v at %d: %q", err, at, wanted, wantAt, short(s))
	}
	if err != api.OK {
		want(t, "beside an error", l, []api.Lens(nil))
		return wanted
	}
	if again, _, _ := decl.Lex(told(l)); !slices.Equal(spelt(again), spelt(all)) {
		t.Errorf("got %s of %q", told(l), s)
	}
	return wanted
}

// grow goes over all texts of these tokens that have at most so many of them, and of those whose beginning cannot be gone on with over some; it counts what is told.
func grow(t *testing.T, s string, all []string, long int, may states, count map[api.Errno]int) {
	count[wantGrammar(t, s)]++
	if len(may) == 0 {
		wantGrammar(t, s+" "+all[0])
		return
	}
	if long == 0 {
		return
	}
	for _, x := range all {
		grow(t, s+" "+x, all, long-1, may.next(class(api.Token{Text: x})), count)
	}
}

func TestP9_2ShortTexts(t *testing.T) {
	for _, x := range []struct {
		all  string
		long int
	}{
		{"rename to hoist out of plunge in a true ;", 9},
		{"wrap head in map a { } ;", 11},
		{"in a { } ;", 20},
		{"convert a ( ) , -> 1 -2 ;", 13},
		{"add remove a : bool = true false 0 \"\" b ;", 11},
		{"add int bytes a : ( ) .. = 1 ;", 12},
		{"add enum a : ( ) , = \"a\" \"b\" \"\\x61\" ;", 14},
		{"rename to add remove hoist out of plunge in wrap head convert map int bool bytes enum dict list true a 0 \"a\" { } ( ) , : ? .. = -> ;", 4},
	} {
		count := map[api.Errno]int{}
		grow(t, "", strings.Split(x.all, " "), x.long, begin(), count)
		if count[api.OK] < 2 || count[api.ErrForm] < 100 {
			t.Errorf("%s: %v", x.all, count)
		}
	}
}

// odds is what may stand in a text, and not be there by the grammar.
func odds() []string {
	l := []string{"{", "}", "(", ")", ",", ":", "?", "..", "=", "->", ";", "a", "r", "true", "false", "maybe", "0", "1", "-1", "9223372036854775807", `"a"`, `"\x61"`, `""`, "$", "-", "\"", "[", strings.Repeat("a", 17), "wrap a;", "in r {", "};", "in r {};", "map r {};", `enum ("a", "a")`}
	for _, w := range allWords {
		l = append(l, w, w)
	}
	return l
}

// TestP9_2SpoiltTexts spoils the tokens of lenses, and cuts them short.
func TestP9_2SpoiltTexts(t *testing.T) {
	r := rand.New(rand.NewPCG(5, 6))
	count, all := map[api.Errno]int{}, odds()
	for _, x := range slices.Concat(randoms(2500), slices.Repeat(kinds(), 8)) {
		tokens, _, err := decl.Lex(told(x))
		if err != api.OK || len(tokens) == 0 {
			continue
		}
		var l []string
		for _, token := range tokens {
			l = append(l, token.Text)
		}
		if err := wantGrammar(t, strings.Join(l, " ")); err != api.OK {
			t.Errorf("%s: %v", told(x), err)
		}
		for range 6 {
			i, j, y := r.IntN(len(l)), r.IntN(len(l)), any1(r, all)
			replaced, copied, swapped := slices.Clone(l), slices.Clone(l), slices.Clone(l)
			replaced[i], copied[i] = y, l[j]
			swapped[i], swapped[j] = l[j], l[i]
			for _, m := range [][]string{l[:i], l[i:], slices.Delete(slices.Clone(l), i, i+1), slices.Insert(slices.Clone(l), i, y), replaced, copied, swapped, slices.Concat(l[:i], l[j:]), append(slices.Clone(l), y)} {
				count[wantGrammar(t, strings.Join(m, " "))]++
			}
		}
	}
	if count[api.OK] < 1000 || count[api.ErrForm] < 5000 || count[api.ErrTwice] < 30 || count[api.ErrFull] < 30 || count[api.ErrDeep] < 20 || count[api.ErrRange] < 30 {
		t.Errorf("told: %v", count)
	}
}

// No call panics, whatever it is given.
func TestW1AnyTexts(t *testing.T) {
	r := rand.New(rand.NewPCG(7, 8))
	all := odds()
	for range 20000 {
		b := make([]byte, r.IntN(12))
		for i := range b {
			b[i] = byte(r.IntN(256))
		}
		wantGrammar(t, string(b))
		s := ""
		for range r.IntN(12) {
			s += any1(r, all) + any1(r, []string{"", " "})
		}
		wantGrammar(t, s)
	}
	for _, s := range eachKind {
		for i := range s {
			for c := range 256 {
				wantGrammar(t, s[:i]+string([]byte{byte(c)})+s[i+1:])
				wantGrammar(t, s[:i]+string([]byte{byte(c)})+s[i:])
			}
		}
	}
}
