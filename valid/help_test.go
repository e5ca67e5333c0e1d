package valid_test

import (
	"math/rand/v2"
	"slices"
	"strconv"
	"strings"
	"testing"

	"cabochon/api"
)

// Types.

func rec(fields ...api.Field) api.Type { return api.Type{Kind: api.TRec, Fields: fields} }

func dict(lo, hi int, of api.Type) api.Type {
	return api.Type{Kind: api.TDict, Lo: lo, Hi: hi, Of: []api.Type{of}}
}

func list(lo, hi int, of api.Type) api.Type {
	return api.Type{Kind: api.TList, Lo: lo, Hi: hi, Of: []api.Type{of}}
}

func number(lo, hi int) api.Type { return api.Type{Kind: api.TInt, Lo: lo, Hi: hi} }

func yes() api.Type { return api.Type{Kind: api.TBool} }

func str(lo, hi int) api.Type { return api.Type{Kind: api.TBytes, Lo: lo, Hi: hi} }

func enum(names ...string) api.Type { return api.Type{Kind: api.TEnum, Names: names} }

func field(name string, t api.Type) api.Field { return api.Field{Name: name, Type: t} }

func optional(name string, t api.Type) api.Field {
	return api.Field{Name: name, Optional: true, Type: t}
}

// nested is lists of one list and so on, of that depth, with that type at their end.
func nested(depth int, end api.Type) api.Type {
	for range depth - 1 {
		end = list(1, 1, end)
	}
	return end
}

// Documents.

// keys is a row of keys, or a path.
func keys(l ...string) []string { return l }

func dRec(keys []string, kids ...api.Doc) api.Doc {
	return api.Doc{Kind: api.DRec, Keys: keys, Kids: kids}
}

func dDict(keys []string, kids ...api.Doc) api.Doc {
	return api.Doc{Kind: api.DDict, Keys: keys, Kids: kids}
}

func dList(kids ...api.Doc) api.Doc { return api.Doc{Kind: api.DList, Kids: kids} }

func dInt(n int) api.Doc { return api.Doc{Kind: api.DInt, Num: n} }

func dBytes(s string) api.Doc { return api.Doc{Kind: api.DBytes, Str: s} }

// dBool takes 0 or 1.
func dBool(n int) api.Doc { return api.Doc{Kind: api.DBool, Num: n} }

// dNested is lists of one list and so on, of that depth, with that document at their end.
func dNested(depth int, end api.Doc) api.Doc {
	for range depth - 1 {
		end = dList(end)
	}
	return end
}

// bushy is a type and a document of that depth, with a fault at each part of the document, most of all where many paths are alike but for their ends.
func bushy(depth int) pair {
	if depth == 1 {
		return pair{number(3, 9), dInt(1)}
	}
	p := bushy(depth - 1)
	if depth%2 == 0 {
		return pair{list(1, 1, p.t), dList(p.d, p.d)}
	}
	return pair{rec(field("b", p.t), field("c", p.t), field("d", yes()), field("e", yes())), dRec(keys("a", "b", "c", "f"), p.d, p.d, p.d, p.d)}
}

// names is so many that rise, all of them names of fields.
func names(n int) []string {
	var l []string
	for i := range n {
		l = append(l, "n"+strconv.Itoa(1<<20+i))
	}
	return l
}

// Faults.

func fault(err api.Errno, path ...string) api.Fault { return api.Fault{Path: path, Err: err} }

func faults(l ...api.Fault) []api.Fault { return l }

// What stands in these is written as a whole, so that two of a kind are told apart by no call of the program; rows that are none and empty ones are written alike.

func showType(t api.Type) string {
	s := "(" + strconv.Itoa(t.Kind) + " " + strconv.Itoa(t.Lo) + " " + strconv.Itoa(t.Hi)
	for _, name := range t.Names {
		s += " " + strconv.Quote(name)
	}
	s += ":"
	for _, f := range t.Fields {
		s += " " + strconv.Quote(f.Name) + " " + strconv.FormatBool(f.Optional) + showType(f.Type)
	}
	s += ":"
	for _, of := range t.Of {
		s += showType(of)
	}
	return s + ")"
}

func show(d api.Doc) string {
	var b strings.Builder
	write(&b, d)
	return b.String()
}

func write(b *strings.Builder, d api.Doc) {
	b.WriteString("(" + strconv.Itoa(d.Kind) + " " + strconv.Itoa(d.Num) + " " + strconv.Quote(d.Str))
	for _, k := range d.Keys {
		b.WriteString(" " + strconv.Quote(k))
	}
	b.WriteString(":")
	for _, k := range d.Kids {
		write(b, k)
	}
	b.WriteString(")")
}

func showPath(path []string) string {
	s := "/"
	for _, part := range path {
		s += strconv.Quote(part) + "/"
	}
	return s
}

func showFault(f api.Fault) string { return showPath(f.Path) + ": " + strconv.Itoa(int(f.Err)) }

func showFaults(l []api.Fault) string {
	var b strings.Builder
	for _, f := range l {
		b.WriteString(showFault(f) + "\n")
	}
	return b.String()
}

// short is s, or its beginning, for what a test tells.
func short(s string) string {
	if len(s) > 600 {
		return s[:600] + " and so on, of " + strconv.Itoa(len(s)) + " bytes"
	}
	return s
}

func wantFaults(t *testing.T, what string, got, want []api.Fault) {
	t.Helper()
	if showFaults(got) != showFaults(want) {
		t.Errorf("%s: got\n%swant\n%s", what, short(showFaults(got)), short(showFaults(want)))
	}
}

func wantFault(t *testing.T, what string, got, want api.Fault) {
	t.Helper()
	if showFault(got) != showFault(want) {
		t.Errorf("%s: got %s, want %s", what, short(showFault(got)), short(showFault(want)))
	}
}

func wantDoc(t *testing.T, what string, got, want api.Doc) {
	t.Helper()
	if show(got) != show(want) {
		t.Errorf("%s: got %s, want %s", what, short(show(got)), short(show(want)))
	}
}

// What comes by chance, the same at each run.

// randomType is a right type that is at most so deep, of few names and numbers.
func randomType(r *rand.Rand, depth int) api.Type {
	kind := api.TRec + r.IntN(7)
	if depth == 1 {
		kind = api.TInt + r.IntN(4)
	}
	lo := r.IntN(3)
	switch kind {
	case api.TRec:
		t := rec()
		for _, name := range []string{"a", "b", "c", "d"} {
			if r.IntN(3) > 0 {
				t.Fields = append(t.Fields, api.Field{Name: name, Optional: r.IntN(3) == 0, Type: randomType(r, depth-1)})
			}
		}
		return t
	case api.TDict, api.TList:
		return api.Type{Kind: kind, Lo: lo, Hi: lo + r.IntN(3), Of: []api.Type{randomType(r, depth-1)}}
	case api.TInt:
		return number(lo-2, lo-2+r.IntN(4))
	case api.TBytes:
		return str(lo, lo+r.IntN(3))
	case api.TEnum:
		return enum([][]string{{""}, {"a", "b"}, {"", "\xff"}, {"b"}}[r.IntN(4)]...)
	}
	return yes()
}

// randomDoc is a right document of no type, at most so deep.
func randomDoc(r *rand.Rand, depth int) api.Doc {
	kind := api.DRec + r.IntN(6)
	if depth == 1 {
		kind = api.DInt + r.IntN(3)
	}
	d := api.Doc{Kind: kind}
	switch kind {
	case api.DRec, api.DDict, api.DList:
		for _, k := range []string{"a", "b", "c"} {
			if r.IntN(3) == 0 {
				continue
			}
			if kind != api.DList {
				d.Keys = append(d.Keys, k)
			}
			d.Kids = append(d.Kids, randomDoc(r, depth-1))
		}
	case api.DBytes:
		d.Str = []string{"", "a", "b", "\xff"}[r.IntN(4)]
	case api.DInt:
		d.Num = r.IntN(7) - 3
	case api.DBool:
		d.Num = r.IntN(2)
	}
	return d
}

// randomOf is a right document that is near to a right type: each of its parts is wrong at about one of odds.
func randomOf(r *rand.Rand, t api.Type, odds int) api.Doc {
	off := func() bool { return r.IntN(odds) == 0 }
	if off() {
		return randomDoc(r, 3)
	}
	less, above := 0, 0
	if off() {
		less, above = r.IntN(2), r.IntN(2)
	}
	n := t.Lo - less + r.IntN(t.Hi-t.Lo+1+less+above)
	switch t.Kind {
	case api.TRec:
		return randomRec(r, t, odds)
	case api.TDict, api.TList:
		d := api.Doc{Kind: t.Kind} // kinds of documents and types are alike up to lists
		for i := range n {
			if t.Kind == api.TDict {
				d.Keys = append(d.Keys, []string{"", "A", "a", "b", "c", "\xff"}[i])
			}
			d.Kids = append(d.Kids, randomOf(r, t.Of[0], odds))
		}
		return d
	case api.TInt:
		return dInt(n)
	case api.TBytes:
		return dBytes("aäbcdefgh"[:max(0, n)])
	case api.TEnum:
		if off() {
			return dBytes("c")
		}
		return dBytes(t.Names[r.IntN(len(t.Names))])
	}
	return dBool(r.IntN(2))
}

func randomRec(r *rand.Rand, t api.Type, odds int) api.Doc {
	d := dRec(nil)
	for _, f := range t.Fields {
		there := r.IntN(odds) > 0
		if f.Optional {
			there = r.IntN(2) == 0
		}
		if there {
			d.Keys = append(d.Keys, f.Name)
			d.Kids = append(d.Kids, randomOf(r, f.Type, odds))
		}
	}
	for _, key := range []string{"a", "aa", "bb", "d", "e"} {
		i, is := slices.BinarySearch(d.Keys, key)
		if !is && r.IntN(odds) == 0 {
			d.Keys = slices.Insert(d.Keys, i, key)
			d.Kids = slices.Insert(d.Kids, i, randomDoc(r, 2))
		}
	}
	return d
}

// pair is a type and a document.
type pair struct {
	t api.Type
	d api.Doc
}

// pairs is right ones of few enough parts: those of which odds is high have few faults.
func pairs(n, odds int) []pair {
	r := rand.New(rand.NewPCG(1, uint64(odds)))
	var l []pair
	for len(l) < n {
		t := randomType(r, 4+r.IntN(4))
		if t.Kind > api.TList && r.IntN(8) > 0 {
			continue // most are to have something below them
		}
		d := randomOf(r, t, odds)
		if strings.Count(showType(t), "(") <= api.MaxTypes && strings.Count(show(d), "(") <= api.MaxParts {
			l = append(l, pair{t, d})
		}
	}
	return l
}

// anyPairs is pairs with many faults, with few, and with hardly any.
func anyPairs() []pair { return slices.Concat(pairs(1500, 3), pairs(1500, 10), pairs(1500, 60)) }
