package text_test

import (
	"math/rand/v2"
	"strings"
	"testing"

	"cabochon/api"
	"cabochon/doc"
	"cabochon/text"
)

// The grammar, as rules: a capital letter is a rule, a byte from 128 on a class of bytes, another byte itself.
const (
	classBlank = "\x80"
	classSmall = "\x81"
	className  = "\x82"
	classDigit = "\x83"
	classFirst = "\x84"
	classPlain = "\x85"
	classHex   = "\x86"
)

var rules = map[byte][]string{
	'S': {"BDB"},
	'B': {"", classBlank + "B"},
	'D': {"{B}", "{F}", "<B>", "<E>", "[B]", "[L]", "I", "true", "false", "Q"},
	'F': {"BNB=BDB", "BNB=BDB,F"},
	'E': {"BQB:BDB", "BQB:BDB,E"},
	'L': {"BDB", "BDB,L"},
	'N': {classSmall + "M"},
	'M': {"", className + "M"},
	'I': {"0", "J", "-J"},
	'J': {classFirst + "K"},
	'K': {"", classDigit + "K"},
	'Q': {"\"C\""},
	'C': {"", classPlain + "C", "\\XC"},
	'X': {"\"", "\\", "x" + classHex + classHex},
}

var classes = map[byte]string{
	classBlank[0]: " \t\n\r",
	classSmall[0]: "abcdefghijklmnopqrstuvwxyz",
	className[0]:  "abcdefghijklmnopqrstuvwxyz0123456789_",
	classDigit[0]: "0123456789",
	classFirst[0]: "123456789",
	classPlain[0]: plain(),
	classHex[0]:   "0123456789abcdef",
}

func plain() string {
	var l []byte
	for c := byte(32); c <= 126; c++ {
		if c != '"' && c != '\\' {
			l = append(l, c)
		}
	}
	return string(l)
}

// states is all that may come, each as a row of what the rules tell; the first of each is no rule.
type states map[string]bool

// open puts what a row may be instead of its first rule, till none is first.
func (s states) open(row string) {
	if row != "" && 'A' <= row[0] && row[0] <= 'Z' {
		for _, x := range rules[row[0]] {
			s.open(x + row[1:])
		}
		return
	}
	s[row] = true
}

func begin(rule string) states {
	s := states{}
	s.open(rule)
	return s
}

// next is what may come behind c.
func (s states) next(c byte) states {
	n := states{}
	for row := range s {
		if row == "" {
			continue
		}
		if class, is := classes[row[0]]; row[0] == c && c < 128 || is && strings.IndexByte(class, c) >= 0 {
			n.open(row[1:])
		}
	}
	return n
}

// formed is whether s is of the rule; if it is not, where the first byte stands that the rule does not have there.
func formed(rule, s string) (int, bool) {
	may := begin(rule)
	for i := range len(s) {
		may = may.next(s[i])
		if len(may) == 0 {
			return i, false
		}
	}
	return len(s), may[""]
}

// wantForm holds Parse to the grammar, and tells whether it told an error that the grammar does not know.
func wantForm(t *testing.T, s string) bool {
	t.Helper()
	place, is := formed("S", s)
	d, at, err := text.Parse(s)
	if err != api.OK && show(d) != show(api.Doc{}) {
		t.Errorf("%q: %v, and a document", s, err)
	}
	switch err {
	case api.OK:
		if !is || at != len(s) || !doc.Right(d) {
			t.Errorf("%q: OK at %d; the grammar tells %v at %d", s, at, is, place)
		}
	case api.ErrForm:
		if is || at != place {
			t.Errorf("%q: ErrForm at %d; the grammar tells %v at %d", s, at, is, place)
		}
	case api.ErrTwice, api.ErrRange, api.ErrDeep, api.ErrFull:
		if at < 0 || at >= place {
			t.Errorf("%q: %v at %d; the grammar tells %v at %d", s, err, at, is, place)
		}
		return true
	default:
		t.Errorf("%q: %v at %d", s, err, at)
	}
	return false
}

// grow goes over all texts of these bytes that are at most so long, and of those whose beginning cannot be gone on with over some.
func grow(t *testing.T, s, bytes string, long int, may states) int {
	wantForm(t, s)
	count := 1
	if len(may) == 0 || len(s) == long {
		if len(may) == 0 && len(s) > 0 {
			wantForm(t, s+s[:1])
		}
		return count
	}
	for i := range len(bytes) {
		count += grow(t, s+bytes[i:i+1], bytes, long, may.next(bytes[i]))
	}
	return count
}

func TestP2_3FormOfShortTexts(t *testing.T) {
	for bytes, long := range map[string]int{
		"{}=,a0 ":                   7,
		"<>:,\"a0":                  7,
		"[],01-9 \t":                5,
		"\"\\x0af":                  6,
		"truefals":                  6,
		"{}<>[],:=\"\\x01-9tfa_ \n": 4,
	} {
		if count := grow(t, "", bytes, long, begin("S")); count < 50 {
			t.Errorf("%q: only %d texts", bytes, count)
		}
	}
}

func TestP2_3FormOfEachByte(t *testing.T) {
	for c := range 256 {
		one := string([]byte{byte(c)})
		for _, s := range []string{"@", "@1", "1@", "1 @", "[@]", "[1@]", "[1,@1]", "{@}", "{@ = 1}", "{a@ = 1}", "{a @= 1}", "{a =@1}", "{a @ 1}", "{a = 1@}", "<@>", "<\"@\": 1>", "<\"\" @: 1>", "<\"\" @ 1>", "\"@\"", "\"\\@\"", "\"\\x@0\"", "\"\\x0@\"", "\"\\x00@\"", "-@", "0@", "-1@", "t@rue", "true@", "\"@", "\"\\@"} {
			wantForm(t, strings.ReplaceAll(s, "@", one))
		}
	}
}

func TestP2_1UnquoteAndNumberOfShortTexts(t *testing.T) {
	var grow func(rule, s, bytes string, long int)
	grow = func(rule, s, bytes string, long int) {
		_, want := formed(rule, s)
		is := false
		if rule == "Q" {
			_, is = text.Unquote(s)
		} else {
			_, is = text.Number(s)
		}
		if is != want {
			t.Errorf("%s of %q is %v", rule, s, is)
		}
		for i := range len(bytes) {
			if len(s) < long {
				grow(rule, s+bytes[i:i+1], bytes, long)
			}
		}
	}
	grow("Q", "", "\"\\x0af A\x00\x7f", 5)
	grow("I", "", "-+019 _a\n", 5)
}

// TestP2_3FormOfSpoiltTexts spoils what was printed, and cuts it short.
func TestP2_3FormOfSpoiltTexts(t *testing.T) {
	r := rand.New(rand.NewPCG(3, 4))
	const bytes = "{}<>[],:=\"\\x019-tfa_ \n\x00\x7f\xff"
	spoilt, told := 0, 0
	for _, d := range randoms(400) {
		s := text.Print(d)
		if len(s) > 200 {
			continue
		}
		for range 10 {
			i, c := r.IntN(len(s)), bytes[r.IntN(len(bytes))]
			for _, x := range []string{s[:i], s[i:], s[:i] + s[i+1:], s[:i] + string([]byte{c}) + s[i:], s[:i] + string([]byte{c}) + s[i+1:], s[:i] + s[i/2:]} {
				spoilt++
				if wantForm(t, x) {
					told++
				}
			}
		}
	}
	if spoilt < 1000 || told == 0 {
		t.Errorf("%d texts, of which %d told something else", spoilt, told)
	}
}
