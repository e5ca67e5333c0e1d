package decl_test

import (
	"fmt"
	"math/rand/v2"
	"slices"
	"strconv"
	"strings"
	"testing"

	"cabochon/api"
)

// Types.

func rec(fields ...api.Field) api.Type { return api.Type{Kind: api.TRec, Fields: fields} }

func dict(lo, hi int, of api.Type) api.Type {
	return api.Type{Kind: api.TDict, Lo: lo, Hi: hi, Of: []api.Type{of}}
}

func list(lo, hi int, of api.Type) api.Type {
	return api.Type{Kind: api.TList, Lo: lo, Hi: hi, Of: []api.Type{of}}
}

func number(lo, hi int) api.Type { return api.Type{Kind: api.TInt, Lo: lo, Hi: hi} }

func yes() api.Type { return api.Type{Kind: api.TBool} }

func str(lo, hi int) api.Type { return api.Type{Kind: api.TBytes, Lo: lo, Hi: hi} }

func enum(names ...string) api.Type { return api.Type{Kind: api.TEnum, Names: names} }

func field(name string, t api.Type) api.Field { return api.Field{Name: name, Type: t} }

func optional(name string, t api.Type) api.Field {
	return api.Field{Name: name, Optional: true, Type: t}
}

// chain is lists of lists and so on, of that depth, with yes or no at its end.
func chain(depth int) api.Type {
	t := yes()
	for range depth - 1 {
		t = list(0, 1, t)
	}
	return t
}

// names is so many that rise, all of them names of fields.
func names(n int) []string {
	var l []string
	for i := range n {
		l = append(l, "n"+strconv.Itoa(1<<20+i))
	}
	return l
}

// wide is a record of so many fields, of each of them that type.
func wide(n int, of api.Type) api.Type {
	t := rec()
	for _, name := range names(n) {
		t.Fields = append(t.Fields, field(name, of))
	}
	return t
}

// whole is a record of all parts that a type may have: itself, and fields of 31, 32, 32 and 32 parts.
func whole() api.Type {
	return rec(
		field("a", list(0, 1, wide(29, yes()))),
		field("b", wide(31, yes())),
		field("c", wide(31, yes())),
		optional("d", wide(31, yes())),
	)
}

// show writes all of t, so that two types are told apart by no call of the program; rows that are none and empty ones are written alike.
func show(t api.Type) string {
	var b strings.Builder
	write(&b, t)
	return b.String()
}

func write(b *strings.Builder, t api.Type) {
	b.WriteString("(" + strconv.Itoa(t.Kind) + " " + strconv.Itoa(t.Lo) + " " + strconv.Itoa(t.Hi))
	for _, name := range t.Names {
		b.WriteString(" " + strconv.Quote(name))
	}
	b.WriteString(":")
	for _, f := range t.Fields {
		b.WriteString(" " + strconv.Quote(f.Name) + " " + strconv.FormatBool(f.Optional))
		write(b, f.Type)
	}
	b.WriteString(":")
	for _, of := range t.Of {
		write(b, of)
	}
	b.WriteString(")")
}

// Tokens.

func name(s string) api.Token { return api.Token{Kind: api.TokName, Text: s} }

func integer(s string) api.Token { return api.Token{Kind: api.TokInt, Text: s} }

func quoted(s string) api.Token { return api.Token{Kind: api.TokBytes, Text: s} }

func sign(s string) api.Token { return api.Token{Kind: api.TokSign, Text: s} }

// at is x, which begins at that place.
func at(place int, x api.Token) api.Token {
	x.At = place
	return x
}

// row is these tokens, that stand ten bytes apart.
func row(l ...api.Token) []api.Token {
	var placed []api.Token
	for i, x := range l {
		placed = append(placed, at(10*i, x))
	}
	return placed
}

func showTokens(l []api.Token) string {
	s := ""
	for _, x := range l {
		s += fmt.Sprintf("%d %q at %d\n", x.Kind, x.Text, x.At)
	}
	return s
}

// short is s, or its beginning, for what a test tells.
func short(s string) string {
	if len(s) > 300 {
		return s[:300] + " and so on, of " + strconv.Itoa(len(s)) + " bytes"
	}
	return s
}

func wantType(t *testing.T, what string, got, want api.Type) {
	t.Helper()
	if show(got) != show(want) {
		t.Errorf("%s: got %s, want %s", short(what), short(show(got)), short(show(want)))
	}
}

func wantTokens(t *testing.T, what string, got, want []api.Token) {
	t.Helper()
	if showTokens(got) != showTokens(want) {
		t.Errorf("%s: got\n%swant\n%s", short(what), short(showTokens(got)), short(showTokens(want)))
	}
}

// What comes by chance, the same at each run.

// Both rise; none of the first is a word, though some are nearly one.
var (
	someNames = []string{"a", "a0", "a_", "b", "dicts", "false", "i", "of_", "true", "z9_abcdefghijkl_"}
	somePiece = []string{"", "\x00", "\t", " ", "\"", "0", "\\", "\\x41", "a", "bool", "b\xff", "z\"\\z", "\x7f", "\x80", "\xff"}
	someInts  = []int{api.MinInt, api.MinInt + 1, -10, -1, 0, 1, 9, 10, 256, 4096, api.MaxInt - 1, api.MaxInt}
)

// random is a right type that is at most so deep.
func random(r *rand.Rand, depth int) api.Type {
	kind := api.TRec + r.IntN(7)
	if depth == 1 {
		kind = api.TInt + r.IntN(4)
	}
	t := api.Type{Kind: kind}
	switch kind {
	case api.TRec:
		for _, name := range some(r, someNames) {
			t.Fields = append(t.Fields, api.Field{Name: name, Optional: r.IntN(2) == 0, Type: random(r, depth-1)})
		}
	case api.TDict, api.TList:
		t.Lo, t.Hi = twoOf(r, someInts[4:])
		t.Of = []api.Type{random(r, depth-1)}
	case api.TInt:
		t.Lo, t.Hi = twoOf(r, someInts)
	case api.TBytes:
		t.Lo, t.Hi = twoOf(r, someInts[4:9])
	case api.TEnum:
		t.Names = some(r, somePiece)
		if len(t.Names) == 0 {
			t.Names = []string{somePiece[r.IntN(len(somePiece))]}
		}
	}
	return t
}

// twoOf is two of a row that rises, the less one first.
func twoOf(r *rand.Rand, l []int) (int, int) {
	a, b := l[r.IntN(len(l))], l[r.IntN(len(l))]
	return min(a, b), max(a, b)
}

// some is a few of all, in their order.
func some(r *rand.Rand, all []string) []string {
	var l []string
	for _, s := range all {
		if r.IntN(len(all)) < 3 {
			l = append(l, s)
		}
	}
	return l
}

// randoms is right types of few enough parts, most of them with something below them.
func randoms(n int) []api.Type {
	r := rand.New(rand.NewPCG(1, 2))
	var l []api.Type
	for len(l) < n {
		t := random(r, 5)
		if strings.Count(show(t), "(") <= api.MaxTypes && (t.Kind <= api.TList || r.IntN(8) == 0) {
			l = append(l, t)
		}
	}
	return l
}

// kinds is a right type of each kind, and types at the limits.
func kinds() []api.Type {
	brim := strings.Repeat("z", api.MaxBytes)
	return []api.Type{
		rec(), rec(field("a", rec()), optional("b", rec(optional("a", yes())))),
		dict(0, 0, yes()), dict(api.MaxInt, api.MaxInt, rec()),
		list(0, 0, yes()), list(1, api.MaxInt, list(1, 1, enum("a"))),
		number(0, 0), number(api.MinInt, api.MaxInt), number(api.MinInt, api.MinInt), number(api.MaxInt, api.MaxInt),
		yes(), str(0, 0), str(api.MaxBytes, api.MaxBytes), enum(""), enum("a", "b"), enum(brim[:api.MaxBytes-1], brim), enum(names(api.MaxNames)...),
		chain(api.MaxDepth), wide(api.MaxFields, yes()), whole(), rec(field(brim[:api.MaxName], yes())),
	}
}

// Memory.

// roomy is t with spare room behind all rows, in which something stands that must stay.
func roomy(t api.Type) api.Type {
	ns := append(slices.Clone(t.Names), "spare", "spare")
	var fs []api.Field
	for _, f := range t.Fields {
		f.Type = roomy(f.Type)
		fs = append(fs, f)
	}
	fs = append(fs, field("spare", number(-77, 0)), field("spare", number(-77, 0)))
	var ts []api.Type
	for _, of := range t.Of {
		ts = append(ts, roomy(of))
	}
	ts = append(ts, number(-77, 0), number(-77, 0))
	t.Names, t.Fields, t.Of = ns[:len(ns)-2], fs[:len(fs)-2], ts[:len(ts)-2]
	return t
}

// rooms gathers all memory that types lead to, spare room too.
type rooms struct {
	texts  [][]string
	fields [][]api.Field
	types  [][]api.Type
}

func (r *rooms) add(t api.Type) {
	for _, f := range t.Fields {
		r.add(f.Type)
	}
	for _, of := range t.Of {
		r.add(of)
	}
	r.texts = append(r.texts, t.Names[:cap(t.Names)])
	r.fields = append(r.fields, t.Fields[:cap(t.Fields)])
	r.types = append(r.types, t.Of[:cap(t.Of)])
}

// show is all of that memory.
func (r *rooms) show() string {
	var b strings.Builder
	for i := range r.texts {
		write(&b, api.Type{Names: r.texts[i], Fields: r.fields[i], Of: r.types[i]})
	}
	return b.String()
}

// marked marks all of each row by its number in turn, and is whether no mark is lost by a later one: whether the rows share nothing.
func marked[T any](rows [][]T, mark func(x *T, n int), has func(x T, n int) bool) bool {
	for i, l := range rows {
		for j := range l {
			mark(&l[j], i)
		}
	}
	is := true
	for i, l := range rows {
		is = is && !slices.ContainsFunc(l, func(x T) bool { return !has(x, i) })
	}
	return is
}

// apart is whether no two of the rows share memory; all of it is overwritten.
func (r *rooms) apart() bool {
	texts := marked(r.texts, func(s *string, n int) { *s = strconv.Itoa(n) }, func(s string, n int) bool { return s == strconv.Itoa(n) })
	fields := marked(r.fields, func(f *api.Field, n int) { *f = field(strconv.Itoa(n), api.Type{}) }, func(f api.Field, n int) bool { return f.Name == strconv.Itoa(n) })
	types := marked(r.types, func(t *api.Type, n int) { *t = number(n, n) }, func(t api.Type, n int) bool { return t.Lo == n })
	return texts && fields && types
}
