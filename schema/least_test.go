package schema_test

import (
	"strconv"
	"strings"
	"testing"

	"cabochon/api"
	"cabochon/schema"
)

func dRec(keys []string, kids ...api.Doc) api.Doc {
	return api.Doc{Kind: api.DRec, Keys: keys, Kids: kids}
}

func dDict(keys []string, kids ...api.Doc) api.Doc {
	return api.Doc{Kind: api.DDict, Keys: keys, Kids: kids}
}

func dList(kids ...api.Doc) api.Doc { return api.Doc{Kind: api.DList, Kids: kids} }

func dInt(n int) api.Doc { return api.Doc{Kind: api.DInt, Num: n} }

func dBytes(s string) api.Doc { return api.Doc{Kind: api.DBytes, Str: s} }

var no = api.Doc{Kind: api.DBool}

func TestP4_4LeastOfScalars(t *testing.T) {
	for _, c := range []struct {
		what string
		t    api.Type
		want api.Doc
	}{
		{"0", number(0, 0), dInt(0)},
		{"from 0 on", number(0, 9), dInt(0)},
		{"up to 0", number(-9, 0), dInt(0)},
		{"on both sides", number(-9, 9), dInt(0)},
		{"all numbers", number(api.MinInt, api.MaxInt), dInt(0)},
		{"above 0", number(3, 9), dInt(3)},
		{"just above 0", number(1, 9), dInt(1)},
		{"one above 0", number(3, 3), dInt(3)},
		{"the greatest", number(api.MaxInt, api.MaxInt), dInt(api.MaxInt)},
		{"below 0", number(-9, -2), dInt(-2)},
		{"just below 0", number(-9, -1), dInt(-1)},
		{"one below 0", number(-2, -2), dInt(-2)},
		{"the least", number(api.MinInt, api.MinInt), dInt(api.MinInt)},
		{"yes or no", yes(), no},
		{"no bytes", str(0, 9), dBytes("")},
		{"a byte", str(1, 9), dBytes("a")},
		{"bytes", str(2, 3), dBytes("aa")},
		{"all bytes", str(api.MaxBytes, api.MaxBytes), dBytes(strings.Repeat("a", api.MaxBytes))},
		{"one of one", enum("x"), dBytes("x")},
		{"one of some", enum("b", "c", "d"), dBytes("b")},
		{"the empty one of some", enum("", "a"), dBytes("")},
		{"an odd one", enum("\x00\xff", "a"), dBytes("\x00\xff")},
	} {
		wantDoc(t, c.what, schema.Least(c.t), c.want)
	}
}

func TestP4_4LeastOfRecords(t *testing.T) {
	for _, c := range []struct {
		what string
		t    api.Type
		want api.Doc
	}{
		{"an empty one", rec(), dRec(nil)},
		{"the example", rec(field("n", number(3, 9)), optional("o", yes())), dRec([]string{"n"}, dInt(3))},
		{"some fields", rec(field("a", number(-2, -1)), field("b", yes()), field("c", str(1, 1))), dRec([]string{"a", "b", "c"}, dInt(-1), no, dBytes("a"))},
		{"optional ones alone", rec(optional("a", yes()), optional("b", rec(field("c", yes())))), dRec(nil)},
		{"optional ones between", rec(optional("a", yes()), field("b", yes()), optional("c", yes()), field("d", number(1, 1)), optional("e", yes())), dRec([]string{"b", "d"}, no, dInt(1))},
		{"records within", rec(field("a", rec(field("b", rec(field("c", number(5, 6)), optional("d", yes())))))), dRec([]string{"a"}, dRec([]string{"b"}, dRec([]string{"c"}, dInt(5))))},
		{"an optional record", rec(optional("a", rec(field("b", yes()))), field("c", rec(optional("d", yes())))), dRec([]string{"c"}, dRec(nil))},
		{"all kinds", rec(field("a", rec()), field("b", dict(1, 2, yes())), field("c", list(1, 2, yes())), field("d", yes()), field("e", enum("x"))), dRec([]string{"a", "b", "c", "d", "e"}, dRec(nil), dDict([]string{"k0"}, no), dList(no), no, dBytes("x"))},
	} {
		wantDoc(t, c.what, schema.Least(c.t), c.want)
	}
}

func TestP4_4LeastOfDictsAndLists(t *testing.T) {
	for lo := range 20 {
		for _, hi := range []int{lo, lo + 1, api.MaxInt} {
			d, l := dDict(nil), dList()
			for i := range min(lo, 8) {
				d.Keys = append(d.Keys, "k"+strconv.Itoa(i))
				d.Kids = append(d.Kids, dInt(3))
				l.Kids = append(l.Kids, dInt(3))
			}
			wantDoc(t, "a dict of "+strconv.Itoa(lo), schema.Least(dict(lo, hi, number(3, 9))), d)
			wantDoc(t, "a list of "+strconv.Itoa(lo), schema.Least(list(lo, hi, number(3, 9))), l)
		}
	}
	keys := []string{"k0", "k1", "k2", "k3", "k4", "k5", "k6", "k7"}
	wantDoc(t, "a dict of very many", schema.Least(dict(api.MaxInt, api.MaxInt, yes())), dDict(keys, no, no, no, no, no, no, no, no))
	wantDoc(t, "a list of very many", schema.Least(list(api.MaxInt, api.MaxInt, yes())), dList(no, no, no, no, no, no, no, no))
	wantDoc(t, "lists of lists", schema.Least(list(2, 9, list(3, 9, str(1, 2)))), dList(dList(dBytes("a"), dBytes("a"), dBytes("a")), dList(dBytes("a"), dBytes("a"), dBytes("a"))))
	wantDoc(t, "a dict of records", schema.Least(dict(2, 2, rec(field("a", list(0, 2, yes())), optional("b", yes())))), dDict(keys[:2], dRec([]string{"a"}, dList()), dRec([]string{"a"}, dList())))
	many := schema.Least(list(9, 9, dict(9, 9, list(9, 9, list(9, 9, yes())))))
	for depth := range 4 {
		if len(many.Kids) != 8 {
			t.Fatalf("%d kids at depth %d", len(many.Kids), depth)
		}
		many = many.Kids[7]
	}
	wantDoc(t, "the last of many", many, no)
}

// isLeast is whether d is the least document of t, found by going over both.
func isLeast(t api.Type, d api.Doc) bool {
	switch t.Kind {
	case api.TRec:
		return isLeastRec(t, d)
	case api.TDict, api.TList:
		if d.Kind != t.Kind || len(d.Kids) != min(t.Lo, 8) {
			return false
		}
		for i, kid := range d.Kids {
			if !isLeast(t.Of[0], kid) || t.Kind == api.TDict && d.Keys[i] != "k"+strconv.Itoa(i) {
				return false
			}
		}
		return t.Kind == api.TDict || len(d.Keys) == 0
	case api.TInt:
		n := d.Num
		return d.Kind == api.DInt && t.Lo <= n && n <= t.Hi && (n == 0 || n > 0 && n == t.Lo || n < 0 && n == t.Hi)
	case api.TBool:
		return showDoc(d) == showDoc(no)
	case api.TBytes:
		return showDoc(d) == showDoc(dBytes("aaaaaaaa"[:t.Lo]))
	case api.TEnum:
		return showDoc(d) == showDoc(dBytes(t.Names[0]))
	}
	return false
}

func isLeastRec(t api.Type, d api.Doc) bool {
	i := 0
	for _, f := range t.Fields {
		if f.Optional {
			continue
		}
		if i == len(d.Keys) || d.Keys[i] != f.Name || !isLeast(f.Type, d.Kids[i]) {
			return false
		}
		i++
	}
	return d.Kind == api.DRec && len(d.Keys) == i && len(d.Kids) == i
}

func TestP4_4LeastOfAny(t *testing.T) {
	for _, x := range randoms(1000) {
		if d := schema.Least(x); !isLeast(x, d) {
			t.Errorf("%s: %s", show(x), short(showDoc(d)))
		}
	}
	for what, x := range right() {
		if d := schema.Least(x); d.Kind < api.DRec || d.Kind > api.DBytes {
			t.Errorf("%s: of kind %d", what, d.Kind)
		}
	}
}

// Of types that are not right something is told, whatever they ask for.
func TestP4_4LeastOfWrongOnes(t *testing.T) {
	for _, kind := range []int{api.MinInt, -1, 0, 8, 9, api.MaxInt} {
		wantDoc(t, "of no kind", schema.Least(api.Type{Kind: kind, Lo: 1, Hi: 2, Names: names(2), Fields: []api.Field{field("a", yes())}, Of: []api.Type{yes()}}), api.Doc{})
	}
	for _, x := range []api.Type{str(-1, 0), str(api.MinInt, 0), str(api.MaxInt, api.MaxInt), enum(), {Kind: api.TDict, Lo: 3}, {Kind: api.TList, Lo: api.MaxInt}, dict(-1, 0, yes()), list(api.MinInt, api.MaxInt, yes()), number(9, -9)} {
		schema.Least(x)
		schema.Least(rec(field("a", list(2, 2, x))))
	}
	for _, x := range wrong() {
		schema.Least(x)
	}
}
