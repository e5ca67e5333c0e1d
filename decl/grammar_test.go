package decl_test

import (
	"math/rand/v2"
	"regexp"
	"slices"
	"strconv"
	"testing"

	"cabochon/api"
	"cabochon/decl"
	"cabochon/doc"
	"cabochon/schema"
	"cabochon/text"
)

// The grammar, as rules: a capital letter is a rule, what else stands there a token: n a NAME, i an INT, q BYTES, the others what stands in quotes.
var rules = map[byte][]string{
	'T': {"{P}", "dRoT", "lRoT", "tR", "y", "sR", "e(E)"},
	'P': {"", "F"},
	'F': {"nO:TG"},
	'O': {"", "?"},
	'G': {"", ",F"},
	'R': {"(i.i)"},
	'E': {"qH"},
	'H': {"", ",E"},
}

var (
	inQuotes = map[string]byte{"{": '{', "}": '}', "(": '(', ")": ')', ",": ',', ":": ':', "?": '?', "..": '.', "dict": 'd', "list": 'l', "of": 'o', "int": 't', "bool": 'y', "bytes": 's', "enum": 'e'}
	anInt    = regexp.MustCompile(`^(0|-?[1-9][0-9]*)$`)
	someByte = regexp.MustCompile(`^"([ !#-\[\]-~]|\\"|\\\\|\\x[0-9a-f][0-9a-f])*"$`)
)

// class is what a token is in the rules; 0, if it is nothing there.
func class(x api.Token) byte {
	switch word := slices.Contains(allWords, x.Text); {
	case x.Kind == api.TokSign || x.Kind == api.TokName && word:
		return inQuotes[x.Text]
	case x.Kind == api.TokName:
		return 'n'
	case x.Kind == api.TokInt && anInt.MatchString(x.Text):
		if _, err := strconv.Atoi(x.Text); err == nil {
			return 'i'
		}
	case x.Kind == api.TokBytes && someByte.MatchString(x.Text):
		return 'q'
	}
	return 0
}

// states is all that may come, each as a row of what the rules tell; the first of each is no rule.
type states map[string]bool

// open puts what a row may be instead of its first rule, till none is first.
func (s states) open(row string) {
	if row != "" && 'A' <= row[0] && row[0] <= 'Z' {
		for _, x := range rules[row[0]] {
			s.open(x + row[1:])
		}
		return
	}
	s[row] = true
}

func begin() states {
	s := states{}
	s.open("T")
	return s
}

// next is what may come behind a token of that class.
func (s states) next(c byte) states {
	n := states{}
	for row := range s {
		if row != "" && row[0] == c {
			n.open(row[1:])
		}
	}
	return n
}

// formed is how many tokens of l the grammar has there, and whether they are all, and a whole type.
func formed(l []api.Token) (int, bool) {
	may := begin()
	for i, x := range l {
		may = may.next(class(x))
		if len(may) == 0 {
			return i, false
		}
	}
	return len(l), may[""]
}

// twin is the first token of l, which the grammar has there, that its record, or enum, has already; or -1.
func twin(l []api.Token) int {
	var open []map[string]bool
	for i, x := range l {
		s := x.Text
		switch class(x) {
		case '{', '(':
			open = append(open, map[string]bool{})
			continue
		case '}', ')':
			open = open[:len(open)-1]
			continue
		case 'q':
			s, _ = text.Unquote(x.Text)
		case 'n':
		default:
			continue
		}
		if open[len(open)-1][s] {
			return i
		}
		open[len(open)-1][s] = true
	}
	return -1
}

// fair is whether the type that l is, which the grammar has, is right, but for what is too much, or too deep.
func fair(l []api.Token) bool {
	for i, x := range l {
		switch class(x) {
		case 'n':
			if !doc.Name(x.Text) {
				return false
			}
		case 'q':
			if s, _ := text.Unquote(x.Text); len(s) > api.MaxBytes {
				return false
			}
		case '.':
			lo, _ := strconv.Atoi(l[i-1].Text)
			hi, _ := strconv.Atoi(l[i+1].Text)
			word := l[i-3].Text
			if lo > hi || word != "int" && lo < 0 || word == "bytes" && hi > api.MaxBytes {
				return false
			}
		}
	}
	return true
}

// spelt is the texts of tokens, byte strings as they are printed, in an order that does not hang on theirs.
func spelt(l []api.Token) []string {
	var all []string
	for _, x := range l {
		s := x.Text
		if x.Kind == api.TokBytes {
			s, _ = text.Unquote(s)
			s = text.Quote(s)
		}
		all = append(all, s)
	}
	slices.Sort(all)
	return all
}

// wantGrammar holds Type to the grammar, and tells the error.
func wantGrammar(t *testing.T, l []api.Token) api.Errno {
	t.Helper()
	place := func(i int) int { return append(slices.Clone(l), at(end, name("")))[i].At }
	i, is := formed(l)
	wantAt, want := place(i), api.ErrForm
	if j := twin(l[:i]); j >= 0 {
		wantAt, want = place(j), api.ErrTwice
	} else if is && !fair(l) {
		wantAt, want = 0, api.ErrArg
	} else if is {
		wantAt, want = end, api.OK
	}
	x, gotAt, err := decl.Type(l, end)
	if gotAt != wantAt || err != want {
		t.Errorf("%v at %d, not %v at %d:\n%s", err, gotAt, want, wantAt, short(showTokens(l)))
	}
	if err != api.OK {
		wantType(t, "beside an error", x, api.Type{})
		return err
	}
	if all, _, _ := decl.Lex(told(x)); !schema.Right(x) || !slices.Equal(spelt(all), spelt(l)) {
		t.Errorf("got %s of\n%s", told(x), short(showTokens(l)))
	}
	return err
}

// grow goes over all rows of these tokens that are at most so long, and of those whose beginning cannot be gone on with over some; it counts what is told.
func grow(t *testing.T, l, all []api.Token, long int, may states, count map[api.Errno]int) {
	count[wantGrammar(t, l)]++
	if len(may) == 0 || len(l) == long {
		if len(may) == 0 {
			wantGrammar(t, append(l, l[0]))
		}
		return
	}
	for _, x := range all {
		x = at(10*len(l), x)
		grow(t, append(slices.Clone(l), x), all, long, may.next(class(x)), count)
	}
}

func TestP6_3TypeOfShortRows(t *testing.T) {
	a, b, zero, one := name("a"), name("b"), integer("0"), integer("1")
	for _, x := range []struct {
		all  []api.Token
		long int
	}{
		{[]api.Token{sign("{"), sign("}"), sign(","), sign(":"), sign("?"), name("bool"), a, b, name("of")}, 10},
		{[]api.Token{name("dict"), name("list"), name("int"), name("bytes"), name("of"), sign("("), sign(")"), sign(".."), zero, one, integer("-1"), name("bool")}, 8},
		{[]api.Token{name("enum"), sign("("), sign(")"), sign(","), quoted(`"a"`), quoted(`"b"`), quoted(`"\x61"`), a, zero}, 9},
		{[]api.Token{sign("{"), sign("}"), sign("("), sign(")"), sign(","), sign(":"), sign("?"), sign(".."), sign("="), sign("->"), sign(";"), name("dict"), name("list"), name("of"), name("int"), name("bool"), name("bytes"), name("enum"), name("in"), name("true"), a, zero, one, quoted(`"a"`), {}}, 6},
	} {
		count := map[api.Errno]int{}
		grow(t, nil, x.all, x.long, begin(), count)
		if count[api.OK] < 5 || count[api.ErrForm] < 100 {
			t.Errorf("%q: %v", x.all[0].Text, count)
		}
	}
}

// odds is tokens of all sorts, some of them of no text.
func odds() []api.Token {
	l := []api.Token{{}, {Kind: 5, Text: "bool"}, {Kind: -1, Text: "{"}, name("{"), name(""), name("A"), name("a b"), sign("a"), sign(""), sign("0"), sign("[["), integer("bool"), integer("-0"), integer("9223372036854775808"), integer("257"), quoted("a"), quoted(`"\q"`), quoted(`""`), quoted("bool"), quoted(`"a"`), quoted(`"\x61"`), integer("0"), integer("-1"), name("a"), name("b"), name("true"), sign("->"), sign("="), sign(";")}
	for _, w := range allWords {
		l = append(l, name(w), sign(w))
	}
	for s := range inQuotes {
		if !decl.Word(s) {
			l = append(l, sign(s), sign(s))
		}
	}
	slices.SortFunc(l, func(a, b api.Token) int {
		return slices.Compare([]string{strconv.Itoa(a.Kind), a.Text}, []string{strconv.Itoa(b.Kind), b.Text})
	})
	return l
}

// TestP6_3TypeOfSpoiltRows spoils the tokens of types, and cuts them short.
func TestP6_3TypeOfSpoiltRows(t *testing.T) {
	r := rand.New(rand.NewPCG(9, 10))
	count, all := map[api.Errno]int{}, odds()
	for _, x := range randoms(3000) {
		l, _, _ := decl.Lex(told(x))
		if len(l) > 150 {
			continue
		}
		if err := wantGrammar(t, l); err != api.OK {
			t.Errorf("%s: %v", told(x), err)
		}
		for range 8 {
			i, j, y := r.IntN(len(l)), r.IntN(len(l)), at(r.IntN(2000)-1000, all[r.IntN(len(all))])
			replaced, copied, swapped := slices.Clone(l), slices.Clone(l), slices.Clone(l)
			replaced[i] = y
			copied[i].Text, copied[i].Kind = l[j].Text, l[j].Kind
			swapped[i], swapped[j] = l[j], l[i]
			for _, m := range [][]api.Token{l[:i], l[i:], slices.Delete(slices.Clone(l), i, i+1), slices.Insert(slices.Clone(l), i, y), replaced, copied, swapped, append(slices.Clone(l), y)} {
				count[wantGrammar(t, m)]++
			}
		}
	}
	if count[api.OK] < 500 || count[api.ErrForm] < 5000 || count[api.ErrTwice] < 100 || count[api.ErrArg] < 500 {
		t.Errorf("told: %v", count)
	}
}
