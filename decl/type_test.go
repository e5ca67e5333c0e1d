package decl_test

import (
	"math/rand/v2"
	"slices"
	"strconv"
	"strings"
	"testing"

	"cabochon/api"
	"cabochon/decl"
)

// end is an end that no token has.
const end = 777

func wantRead(t *testing.T, l []api.Token, want api.Type) {
	t.Helper()
	got, at, err := decl.Type(l, end)
	if at != end || err != api.OK {
		t.Errorf("%v at %d:\n%s", err, at, short(showTokens(l)))
	}
	wantType(t, "tokens", got, want)
}

func wantUnread(t *testing.T, l []api.Token, at int, err api.Errno) {
	t.Helper()
	got, gotAt, gotErr := decl.Type(l, end)
	if gotAt != at || gotErr != err {
		t.Errorf("%v at %d, not %v at %d:\n%s", gotErr, gotAt, err, at, short(showTokens(l)))
	}
	wantType(t, "tokens", got, api.Type{})
}

// ranged is that word, and a range, as tokens.
func ranged(word, lo, hi api.Token) []api.Token {
	return []api.Token{word, sign("("), lo, sign(".."), hi, sign(")")}
}

// many is a dictionary, or a list, of 0 to 9 of these tokens, as tokens.
func many(word, of api.Token, l ...api.Token) []api.Token {
	return slices.Concat(ranged(word, integer("0"), integer("9")), []api.Token{of}, l)
}

// in is a record of that field of these tokens, as tokens.
func in(field api.Token, l ...api.Token) []api.Token {
	return slices.Concat([]api.Token{sign("{"), field, sign(":")}, l, []api.Token{sign("}")})
}

// enums is an enum of these, as tokens.
func enums(l ...api.Token) []api.Token {
	all := []api.Token{name("enum"), sign("(")}
	for i, x := range l {
		if i > 0 {
			all = append(all, sign(","))
		}
		all = append(all, x)
	}
	return append(all, sign(")"))
}

func TestP6_3Type(t *testing.T) {
	wantRead(t, row(name("bool")), yes())
	wantRead(t, row(sign("{"), sign("}")), rec())
	wantRead(t, row(in(name("a"), name("bool"))...), rec(field("a", yes())))
	wantRead(t, row(ranged(name("int"), integer("-3"), integer("9"))...), number(-3, 9))
	wantRead(t, row(ranged(name("bytes"), integer("0"), integer("9"))...), str(0, 9))
	wantRead(t, row(many(name("dict"), name("of"), name("bool"))...), dict(0, 9, yes()))
	wantRead(t, row(many(name("list"), name("of"), sign("{"), sign("}"))...), list(0, 9, rec()))
	wantRead(t, row(enums(quoted(`"b"`), quoted(`"a"`))...), enum("a", "b"))
}

// What is told as the place is what stands there: the tokens' own places, and the end's.
func TestP6_3PlacesOfTokens(t *testing.T) {
	for _, end := range []int{0, -1, 7, api.MaxInt, api.MinInt} {
		for _, l := range [][]api.Token{nil, {}} {
			if x, at, err := decl.Type(l, end); at != end || err != api.ErrForm || show(x) != show(api.Type{}) {
				t.Errorf("%v at %d, not at %d", err, at, end)
			}
		}
		if x, at, err := decl.Type([]api.Token{at(99, name("bool"))}, end); at != end || err != api.OK || show(x) != show(yes()) {
			t.Errorf("%v at %d, not at %d", err, at, end)
		}
		if _, at, err := decl.Type([]api.Token{at(99, sign("{"))}, end); at != end || err != api.ErrForm {
			t.Errorf("%v at %d, not at %d", err, at, end)
		}
		if _, at, err := decl.Type([]api.Token{at(99, name("bool")), at(end, name("bool"))}, 5); at != end || err != api.ErrForm {
			t.Errorf("%v at %d, not at %d", err, at, end)
		}
		if _, at, err := decl.Type([]api.Token{at(9, sign("{")), at(8, name("a")), at(7, sign(":")), at(6, name("bool")), at(5, sign(",")), at(end, name("a"))}, 5); at != end || err != api.ErrTwice {
			t.Errorf("%v at %d, not at %d", err, at, end)
		}
		l := ranged(name("int"), integer("1"), integer("0"))
		for i := range l {
			l[i].At = end
		}
		if _, at, err := decl.Type(l, end); at != 0 || err != api.ErrArg {
			t.Errorf("%v at %d, not at 0", err, at)
		}
	}
}

// What stands in quotes in the grammar may be of TokSign; words may be of TokName, too.
func TestP6_3WordsAndSigns(t *testing.T) {
	wantRead(t, row(sign("bool")), yes())
	wantRead(t, row(ranged(sign("int"), integer("0"), integer("9"))...), number(0, 9))
	wantRead(t, row(ranged(sign("bytes"), integer("0"), integer("9"))...), str(0, 9))
	wantRead(t, row(many(sign("dict"), sign("of"), sign("bool"))...), dict(0, 9, yes()))
	wantRead(t, row(many(sign("list"), name("of"), sign("bool"))...), list(0, 9, yes()))
	wantRead(t, row(sign("enum"), sign("("), quoted(`"a"`), sign(")")), enum("a"))
	for _, whole := range [][]api.Token{
		in(name("a"), many(name("dict"), name("of"), ranged(name("int"), integer("0"), integer("9"))...)...),
		{sign("{"), name("a"), sign("?"), sign(":"), name("bool"), sign(","), name("b"), sign(":"), name("bool"), sign("}")},
		many(name("list"), name("of"), enums(quoted(`"a"`), quoted(`"b"`))...),
	} {
		for i, x := range whole {
			for _, kind := range []int{0, api.TokName, api.TokInt, api.TokBytes, api.TokSign, 5, -1} {
				l := row(whole...)
				l[i].Kind = kind
				switch {
				case kind == x.Kind || kind == api.TokSign && decl.Word(x.Text):
					if _, at, err := decl.Type(l, end); at != end || err != api.OK {
						t.Errorf("%v at %d:\n%s", err, at, showTokens(l))
					}
				default:
					wantUnread(t, l, 10*i, api.ErrForm)
				}
			}
		}
	}
}

func TestP6_3NamesThatAreNone(t *testing.T) {
	for _, s := range []string{"", "A", "_a", "a b", "a-", "9", "{", "}", ":", "?", "\"a\"", "\xff", "bool ", " bool", "Bool", strings.Repeat("a", api.MaxName+1), strings.Repeat("a", 1<<16)} {
		wantUnread(t, row(in(name(s), name("bool"))...), 0, api.ErrArg)
		wantUnread(t, row(in(name("b"), in(name(s), name("bool"))...)...), 0, api.ErrArg)
		wantUnread(t, row(sign("{"), name(s), sign(":"), name("bool"), sign(","), name(s), sign("}")), 50, api.ErrTwice)
		wantUnread(t, row(sign("{"), name(s), sign(":"), name(s), sign("}")), 30, api.ErrForm)
		wantUnread(t, row(name(s)), 0, api.ErrForm)
	}
	wantRead(t, row(in(name(strings.Repeat("a", api.MaxName)), name("bool"))...), rec(field(strings.Repeat("a", api.MaxName), yes())))
}

func TestP6_3NumbersThatAreNone(t *testing.T) {
	for _, s := range []string{"", "-", "-0", "00", "01", "-01", "+1", " 1", "1 ", "1a", "a", "0x1", "1_0", "1.0", "9223372036854775808", "-9223372036854775809", strings.Repeat("9", 100), "\"1\"", "\x001"} {
		for _, word := range []string{"int", "bytes", "dict", "list"} {
			wantUnread(t, row(ranged(name(word), integer(s), integer("1"))...), 20, api.ErrForm)
			wantUnread(t, row(ranged(name(word), integer("1"), integer(s))...), 40, api.ErrForm)
		}
	}
	wantRead(t, row(ranged(name("int"), integer("-9223372036854775808"), integer("9223372036854775807"))...), number(api.MinInt, api.MaxInt))
}

func TestP6_3BytesThatAreNone(t *testing.T) {
	for _, s := range []string{"", "a", "\"", "\"a", "a\"", "\"a\" ", " \"a\"", "\"\\q\"", "\"\\x0A\"", "\"\n\"", "\"\x80\"", "\"\"\"", "\"a\"\"b\"", "'a'"} {
		wantUnread(t, row(enums(quoted(s))...), 20, api.ErrForm)
		wantUnread(t, row(enums(quoted(`"a"`), quoted(s))...), 40, api.ErrForm)
	}
	brim := strings.Repeat("a", api.MaxBytes)
	wantRead(t, row(enums(quoted("\""+brim+"\""))...), enum(brim))
	wantUnread(t, row(enums(quoted("\""+brim+"a\""))...), 0, api.ErrArg)
	wantUnread(t, row(enums(quoted("\""+brim+"a\""), quoted("\""+brim+"\\x61\""))...), 40, api.ErrTwice)
}

func TestP6_3TypeOfMuch(t *testing.T) {
	const deep, wide = 1 << 16, 1 << 17
	var l []api.Token
	for range deep - 1 {
		l = append(l, many(name("list"), name("of"))...)
	}
	l = row(append(l, name("bool"))...)
	wantUnread(t, l, 0, api.ErrArg)
	wantUnread(t, l[:len(l)-1], end, api.ErrForm)
	wantUnread(t, append(l, at(5, sign("}"))), 5, api.ErrForm)
	fields, some := []api.Token{sign("{")}, []api.Token{}
	for _, i := range rand.New(rand.NewPCG(7, 8)).Perm(wide) {
		s := "n" + strconv.Itoa(i)
		fields = append(fields, name(s), sign(":"), name("bool"), sign(","))
		some = append(some, quoted("\""+s+"\""))
	}
	last := len(fields) - 1
	fields[last] = sign("}")
	wantUnread(t, row(fields...), 0, api.ErrArg)
	fields[last] = sign(",")
	wantUnread(t, row(append(fields, fields[1])...), 10*(last+1), api.ErrTwice)
	wantUnread(t, row(enums(some...)...), 0, api.ErrArg)
	wantUnread(t, row(enums(append(some, some[0])...)...), 10*(2+2*wide), api.ErrTwice)
}
