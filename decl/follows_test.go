package decl_test

import (
	"math/rand/v2"
	"strings"
	"testing"

	"cabochon/api"
	"cabochon/decl"
	"cabochon/schema"
)

func TestP6_5WhatIsRightIsParsedAsItWas(t *testing.T) {
	long, brim := 0, strings.Repeat("\xff", api.MaxBytes-1)
	var many []string
	for i := range api.MaxNames {
		many = append(many, string([]byte{byte(i)})+brim)
	}
	for _, x := range append(append(randoms(3000), kinds()...), enum(many...), enum(many[:15]...), enum(many[:16]...)) {
		s := decl.Print(x)
		got, at, err := decl.Parse(s)
		if len(s) > api.MaxText {
			long++
			wantType(t, s, got, api.Type{})
			if at != api.MaxText || err != api.ErrFull {
				t.Errorf("%s: %v at %d", short(s), err, at)
			}
			continue
		}
		if at != len(s) || err != api.OK {
			t.Errorf("%s: %v at %d", short(s), err, at)
		}
		wantType(t, s, got, x)
	}
	if long != 2 {
		t.Errorf("%d texts are too long", long)
	}
}

// A field whose name is a word has no text of the grammar, though its record is right.
func TestP6_5WordsAsFields(t *testing.T) {
	for _, w := range allWords {
		x := rec(field(w, yes()))
		if _, at, err := decl.Parse(decl.Print(x)); !schema.Right(x) || at != 1 || err != api.ErrForm {
			t.Errorf("%s: %v at %d", w, err, at)
		}
	}
}

// TestP6_5WhatIsParsedIsRight takes what was not printed: spoilt texts that are still taken.
func TestP6_5WhatIsParsedIsRight(t *testing.T) {
	r := rand.New(rand.NewPCG(11, 12))
	taken := 0
	const bytes = "{}(),:?.=0123456789abdo_\"\\ "
	for _, x := range append(randoms(1000), kinds()...) {
		s := decl.Print(x)
		for range 40 {
			i, c := r.IntN(len(s)), bytes[r.IntN(len(bytes))]
			for _, y := range []string{s[:i] + s[i+1:], s[:i] + string(c) + s[i+1:], s[:i] + string(c) + s[i:], strings.ReplaceAll(s, s[i:i+1], "1")} {
				got, _, err := decl.Parse(y)
				if err != api.OK || y == s {
					continue
				}
				taken++
				if !schema.Right(got) {
					t.Errorf("%s: %s is not right", short(y), short(show(got)))
				}
				again, at, err := decl.Parse(decl.Print(got))
				if err != api.OK || at != len(decl.Print(got)) {
					t.Errorf("%s: printed and parsed: %v at %d", short(y), err, at)
				}
				wantType(t, y, again, got)
			}
		}
	}
	if taken < 5000 {
		t.Errorf("only %d were taken", taken)
	}
}

// No call panics, whatever it is given.
func TestW1AnyTextsAndTokens(t *testing.T) {
	r := rand.New(rand.NewPCG(13, 14))
	all := odds()
	for range 20000 {
		b := make([]byte, r.IntN(12))
		for i := range b {
			b[i] = byte(r.IntN(256))
		}
		wantLexed(t, string(b))
		if x, _, err := decl.Parse(string(b)); err == api.OK {
			t.Errorf("%q: %s", b, show(x))
		}
		var l []api.Token
		for range r.IntN(8) {
			l = append(l, at(r.Int(), all[r.IntN(len(all))]))
		}
		wantGrammar(t, l)
	}
}
