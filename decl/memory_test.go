package decl_test

import (
	"slices"
	"strings"
	"testing"

	"cabochon/api"
	"cabochon/decl"
)

func TestP6_4PrintOnlyLooks(t *testing.T) {
	for _, x := range append(randoms(200), kinds()...) {
		x = roomy(x)
		var r rooms
		r.add(x)
		before := r.show()
		decl.Print(x)
		if r.show() != before {
			t.Errorf("changed: %s", short(show(x)))
		}
	}
}

func TestP6_4TypeOnlyLooks(t *testing.T) {
	for _, x := range append(randoms(200), kinds()...) {
		l, _, _ := decl.Lex(told(x))
		for _, cut := range []int{0, 1, len(l) / 2} {
			room := append(slices.Clone(l[:len(l)-cut]), name("spare"), sign("spare"))
			before := showTokens(room)
			first, _, err := decl.Type(room[:len(room)-2], end)
			if showTokens(room) != before {
				t.Errorf("changed: %s", short(before))
			}
			// What is handed in is overwritten: what was answered stays.
			told := show(first)
			clear(room)
			if show(first) != told || err == api.OK && cut > 0 {
				t.Errorf("%v, and %s is %s", err, short(told), short(show(first)))
			}
		}
	}
}

// What is answered is overwritten as a whole: no other answer, and no other part of it, is what was written.
func TestP6_4AnswersAreNewMemory(t *testing.T) {
	for _, x := range append(randoms(300), kinds()...) {
		s := told(x)
		if len(s) > api.MaxText {
			continue
		}
		l, _, _ := decl.Lex(s)
		var r rooms
		for range 2 {
			byText, _, _ := decl.Parse(s)
			byTokens, _, _ := decl.Type(l, len(s))
			r.add(byText)
			r.add(byTokens)
		}
		if !r.apart() {
			t.Errorf("answers share memory: %s", s)
		}
		again, _, _ := decl.Parse(s)
		wantType(t, s, again, x)
		again, _, _ = decl.Type(l, len(s))
		wantType(t, s, again, x)
	}
}

func TestP6_4TokensAreNewMemory(t *testing.T) {
	for _, s := range []string{"", "a", "{a: int (0 .. 9)}", strings.Repeat("a ", 1000)} {
		first, _, _ := decl.Lex(s)
		second, _, _ := decl.Lex(s)
		before := showTokens(second)
		clear(first[:cap(first)])
		if showTokens(second) != before {
			t.Errorf("%s: two answers share memory", short(s))
		}
		third, _, _ := decl.Lex(s)
		wantTokens(t, s, third, second)
	}
}
