package schema_test

import (
	"math/rand/v2"
	"slices"
	"strconv"
	"strings"
	"testing"

	"cabochon/api"
)

func rec(fields ...api.Field) api.Type { return api.Type{Kind: api.TRec, Fields: fields} }

func dict(lo, hi int, of api.Type) api.Type {
	return api.Type{Kind: api.TDict, Lo: lo, Hi: hi, Of: []api.Type{of}}
}

func list(lo, hi int, of api.Type) api.Type {
	return api.Type{Kind: api.TList, Lo: lo, Hi: hi, Of: []api.Type{of}}
}

func number(lo, hi int) api.Type { return api.Type{Kind: api.TInt, Lo: lo, Hi: hi} }

func yes() api.Type { return api.Type{Kind: api.TBool} }

func str(lo, hi int) api.Type { return api.Type{Kind: api.TBytes, Lo: lo, Hi: hi} }

func enum(names ...string) api.Type { return api.Type{Kind: api.TEnum, Names: names} }

func field(name string, t api.Type) api.Field { return api.Field{Name: name, Type: t} }

func optional(name string, t api.Type) api.Field {
	return api.Field{Name: name, Optional: true, Type: t}
}

// chain is lists of lists and so on, of that depth, with yes or no at its end.
func chain(depth int) api.Type {
	t := yes()
	for range depth - 1 {
		t = list(0, 1, t)
	}
	return t
}

// names is so many that rise.
func names(n int) []string {
	var l []string
	for i := range n {
		l = append(l, "n"+strconv.Itoa(1<<20+i))
	}
	return l
}

// wide is a record of so many fields, of each of them that type.
func wide(n int, of api.Type) api.Type {
	t := rec()
	for _, name := range names(n) {
		t.Fields = append(t.Fields, field(name, of))
	}
	return t
}

// whole is a record of all parts that a type may have: itself, and fields of 31, 32, 32 and 32 parts.
func whole() api.Type {
	return rec(
		field("a", list(0, 1, wide(29, yes()))),
		field("b", wide(31, yes())),
		field("c", wide(31, yes())),
		optional("d", wide(31, yes())),
	)
}

// show writes all of t, so that two types are told apart by no call of the package; rows that are none and empty ones are written alike.
func show(t api.Type) string {
	var b strings.Builder
	write(&b, t)
	return b.String()
}

func write(b *strings.Builder, t api.Type) {
	b.WriteString("(" + strconv.Itoa(t.Kind) + " " + strconv.Itoa(t.Lo) + " " + strconv.Itoa(t.Hi))
	for _, name := range t.Names {
		b.WriteString(" " + strconv.Quote(name))
	}
	b.WriteString(":")
	for _, f := range t.Fields {
		b.WriteString(" " + strconv.Quote(f.Name) + " " + strconv.FormatBool(f.Optional))
		write(b, f.Type)
	}
	b.WriteString(":")
	for _, of := range t.Of {
		write(b, of)
	}
	b.WriteString(")")
}

// showDoc writes all of a document likewise.
func showDoc(d api.Doc) string {
	s := "(" + strconv.Itoa(d.Kind) + " " + strconv.Itoa(d.Num) + " " + strconv.Quote(d.Str)
	for _, k := range d.Keys {
		s += " " + strconv.Quote(k)
	}
	s += ":"
	for _, k := range d.Kids {
		s += showDoc(k)
	}
	return s + ")"
}

// short is s, or its beginning, for what a test tells.
func short(s string) string {
	if len(s) > 400 {
		return s[:400] + " and so on, of " + strconv.Itoa(len(s)) + " bytes"
	}
	return s
}

func wantType(t *testing.T, what string, got, want api.Type) {
	t.Helper()
	if show(got) != show(want) {
		t.Errorf("%s: got %s, want %s", what, short(show(got)), short(show(want)))
	}
}

func wantZero(t *testing.T, what string, got api.Type) {
	t.Helper()
	wantType(t, what, got, api.Type{})
}

func wantDoc(t *testing.T, what string, got, want api.Doc) {
	t.Helper()
	if showDoc(got) != showDoc(want) {
		t.Errorf("%s: got %s, want %s", what, short(showDoc(got)), short(showDoc(want)))
	}
}

// roomy is t with spare room behind all rows, in which something stands that must stay.
func roomy(t api.Type) api.Type {
	ns := append(slices.Clone(t.Names), "spare", "spare")
	var fs []api.Field
	for _, f := range t.Fields {
		f.Type = roomy(f.Type)
		fs = append(fs, f)
	}
	fs = append(fs, field("spare", number(-77, 0)), field("spare", number(-77, 0)))
	var ts []api.Type
	for _, of := range t.Of {
		ts = append(ts, roomy(of))
	}
	ts = append(ts, number(-77, 0), number(-77, 0))
	t.Names, t.Fields, t.Of = ns[:len(ns)-2], fs[:len(fs)-2], ts[:len(ts)-2]
	return t
}

// showRoom is show, with the spare room.
func showRoom(t api.Type) string {
	s := show(t) + strings.Join(t.Names[:cap(t.Names)], ",")
	for i, f := range t.Fields[:cap(t.Fields)] {
		if i < len(t.Fields) {
			s += showRoom(f.Type)
		} else {
			s += f.Name + show(f.Type)
		}
	}
	for i, of := range t.Of[:cap(t.Of)] {
		if i < len(t.Of) {
			s += showRoom(of)
		} else {
			s += show(of)
		}
	}
	return s
}

// rooms gathers all memory that types and documents lead to, spare room too.
type rooms struct {
	texts  [][]string
	fields [][]api.Field
	types  [][]api.Type
	docs   [][]api.Doc
}

func (r *rooms) typ(t api.Type) {
	for _, f := range t.Fields {
		r.typ(f.Type)
	}
	for _, of := range t.Of {
		r.typ(of)
	}
	r.texts = append(r.texts, t.Names[:cap(t.Names)])
	r.fields = append(r.fields, t.Fields[:cap(t.Fields)])
	r.types = append(r.types, t.Of[:cap(t.Of)])
}

func (r *rooms) doc(d api.Doc) {
	for _, k := range d.Kids {
		r.doc(k)
	}
	r.texts = append(r.texts, d.Keys[:cap(d.Keys)])
	r.docs = append(r.docs, d.Kids[:cap(d.Kids)])
}

// marked marks all of each row by its number in turn, and is whether no mark is lost by a later one: whether the rows share nothing.
func marked[T any](rows [][]T, mark func(x *T, n int), has func(x T, n int) bool) bool {
	for i, l := range rows {
		for j := range l {
			mark(&l[j], i)
		}
	}
	is := true
	for i, l := range rows {
		is = is && !slices.ContainsFunc(l, func(x T) bool { return !has(x, i) })
	}
	return is
}

// apart is whether no two of the rows share memory; all of it is overwritten.
func (r *rooms) apart() bool {
	texts := marked(r.texts, func(s *string, n int) { *s = strconv.Itoa(n) }, func(s string, n int) bool { return s == strconv.Itoa(n) })
	fields := marked(r.fields, func(f *api.Field, n int) { *f = field(strconv.Itoa(n), api.Type{}) }, func(f api.Field, n int) bool { return f.Name == strconv.Itoa(n) })
	types := marked(r.types, func(t *api.Type, n int) { *t = number(n, n) }, func(t api.Type, n int) bool { return t.Lo == n })
	docs := marked(r.docs, func(d *api.Doc, n int) { *d = api.Doc{Num: n} }, func(d api.Doc, n int) bool { return d.Num == n })
	return texts && fields && types && docs
}

// random is a right type that is at most so deep, of few names and numbers, so that alike ones come up.
func random(r *rand.Rand, depth int) api.Type {
	kind := api.TRec + r.IntN(7)
	if depth == 1 {
		kind = api.TInt + r.IntN(4)
	}
	lo := r.IntN(4)
	switch kind {
	case api.TRec:
		return randomRec(r, depth)
	case api.TDict, api.TList:
		return api.Type{Kind: kind, Lo: lo, Hi: lo + r.IntN(3), Of: []api.Type{random(r, depth-1)}}
	case api.TInt:
		return number(lo-3, lo-3+r.IntN(4))
	case api.TBytes:
		return str(lo, lo+r.IntN(3))
	case api.TEnum:
		return enum([][]string{{""}, {"a", "b"}, {"", "\xff"}, {"b"}}[r.IntN(4)]...)
	}
	return yes()
}

func randomRec(r *rand.Rand, depth int) api.Type {
	t := rec()
	for _, name := range []string{"a", "b", "c"} {
		if r.IntN(3) > 0 {
			t.Fields = append(t.Fields, api.Field{Name: name, Optional: r.IntN(2) == 0, Type: random(r, depth-1)})
		}
	}
	return t
}

// randoms is the same right types at each run, of few enough parts.
func randoms(n int) []api.Type {
	r := rand.New(rand.NewPCG(1, 2))
	var l []api.Type
	for len(l) < n {
		if t := random(r, 5); parts(t) <= api.MaxTypes {
			l = append(l, t)
		}
	}
	return l
}

// parts is how many parts t has, told by how it is written.
func parts(t api.Type) int { return strings.Count(show(t), "(") }
