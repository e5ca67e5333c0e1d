package valid_test

import (
	"slices"
	"strconv"
	"strings"
	"testing"

	"cabochon/api"
	"cabochon/schema"
	"cabochon/valid"
)

func wantMend(t *testing.T, what string, x api.Type, d, want api.Doc, changes int) {
	t.Helper()
	got, n := valid.Mend(x, d)
	wantDoc(t, what, got, want)
	if n != changes {
		t.Errorf("%s: %d changes, not %d", what, n, changes)
	}
}

func TestP5_3AtTheTop(t *testing.T) {
	for _, c := range []struct {
		what    string
		t       api.Type
		d, want api.Doc
	}{
		{"a number below", number(3, 9), dInt(2), dInt(3)},
		{"a number above", number(3, 9), dInt(10), dInt(3)},
		{"a number above, below 0", number(-9, -3), dInt(5), dInt(-3)},
		{"no number", number(-9, 9), dBytes("a"), dInt(0)},
		{"no bool", yes(), dInt(1), dBool(0)},
		{"bytes too short", str(2, 3), dBytes("x"), dBytes("aa")},
		{"bytes too long", str(0, 3), dBytes("xxxx"), dBytes("")},
		{"no bytes", str(1, 3), dList(dInt(1)), dBytes("a")},
		{"of no such name", enum("b", "c"), dBytes("a"), dBytes("b")},
		{"no enum", enum("b", "c"), dBool(1), dBytes("b")},
		{"no record", rec(field("a", number(3, 9)), optional("b", yes())), dDict(keys("a", "b"), dInt(5), dBool(1)), dRec(keys("a"), dInt(3))},
		{"no dict", dict(2, 3, yes()), dRec(keys("a", "b"), dBool(1), dBool(1)), dDict(keys("k0", "k1"), dBool(0), dBool(0))},
		{"no list", list(2, 3, number(3, 9)), dInt(5), dList(dInt(3), dInt(3))},
		{"a dict of too few", dict(2, 3, yes()), dDict(keys("x"), dBool(1)), dDict(keys("k0", "k1"), dBool(0), dBool(0))},
		{"a dict of too many", dict(0, 1, yes()), dDict(keys("x", "y"), dBool(1), dInt(1)), dDict(nil)},
		{"a list of too few", list(1, 2, yes()), dList(), dList(dBool(0))},
		{"a list of too many, and of wrong ones", list(1, 2, yes()), dList(dInt(1), dInt(1), dInt(1)), dList(dBool(0))},
		{"a list of very many", list(9, 9, yes()), dList(dBool(1)), dList(slices.Repeat([]api.Doc{dBool(0)}, 8)...)},
	} {
		wantMend(t, c.what, c.t, c.d, c.want, 1)
	}
}

func TestP5_3Fields(t *testing.T) {
	x := rec(field("b", number(3, 9)), optional("d", rec(field("a", str(1, 2)), optional("b", yes()))), field("f", str(1, 2)))
	n, s, o := dInt(5), dBytes("x"), dRec(keys("a", "b"), dBytes("y"), dBool(1))
	for _, c := range []struct {
		what    string
		d, want api.Doc
		changes int
	}{
		{"all", dRec(keys("b", "d", "f"), n, o, s), dRec(keys("b", "d", "f"), n, o, s), 0},
		{"none", dRec(nil), dRec(keys("b", "f"), dInt(3), dBytes("a")), 2},
		{"the first missing", dRec(keys("d", "f"), o, s), dRec(keys("b", "d", "f"), dInt(3), o, s), 1},
		{"the last missing", dRec(keys("b", "d"), n, o), dRec(keys("b", "d", "f"), n, o, dBytes("a")), 1},
		{"out of range", dRec(keys("b", "f"), dInt(1), dBytes("xxx")), dRec(keys("b", "f"), dInt(3), dBytes("a")), 2},
		{"an optional one of another type", dRec(keys("b", "d", "f"), n, n, s), dRec(keys("b", "d", "f"), n, dRec(keys("a"), dBytes("a")), s), 1},
		{"missing within an optional one", dRec(keys("b", "d", "f"), n, dRec(keys("b"), dBool(1)), s), dRec(keys("b", "d", "f"), n, dRec(keys("a", "b"), dBytes("a"), dBool(1)), s), 1},
		{"more within an optional one", dRec(keys("b", "d", "f"), n, dRec(keys("a", "aa", "c"), s, s, n), s), dRec(keys("b", "d", "f"), n, dRec(keys("a"), s), s), 2},
		{"more, ahead, between, behind", dRec(keys("a", "b", "c", "f", "g"), n, n, o, s, dList(n)), dRec(keys("b", "f"), n, s), 3},
		{"more alone", dRec(keys("a", "c"), dRec(keys("b"), s), n), dRec(keys("b", "f"), dInt(3), dBytes("a")), 4},
		{"of all a piece", dRec(keys("a", "b", "d"), n, dInt(1), dRec(keys("b", "c"), n, n)), dRec(keys("b", "d", "f"), dInt(3), dRec(keys("a", "b"), dBytes("a"), dBool(0)), dBytes("a")), 6},
	} {
		wantMend(t, c.what, x, c.d, c.want, c.changes)
	}
	wantMend(t, "no fields", rec(), dRec(keys("a", "b"), n, o), dRec(nil), 2)
}

func TestP5_3Kids(t *testing.T) {
	n := number(3, 9)
	wantMend(t, "a dict's kids", dict(0, 9, n), dDict(keys("", "a", "b"), dInt(2), dInt(4), dBool(1)), dDict(keys("", "a", "b"), dInt(3), dInt(4), dInt(3)), 2)
	wantMend(t, "a list's kids", list(0, 9, n), dList(dInt(4), dInt(2), dList(dInt(4))), dList(dInt(4), dInt(3), dInt(3)), 2)
	wantMend(t, "lists of lists", list(0, 9, list(1, 2, n)), dList(dList(), dList(dInt(4), dInt(2)), dList(dInt(4), dInt(4), dInt(4))), dList(dList(dInt(3)), dList(dInt(4), dInt(3)), dList(dInt(3))), 3)
	wantMend(t, "records of a dict", dict(0, 9, rec(field("a", n))), dDict(keys("x", "y"), dRec(nil), dRec(keys("a", "b"), dInt(1), dInt(1))), dDict(keys("x", "y"), dRec(keys("a"), dInt(3)), dRec(keys("a"), dInt(3))), 3)
	wantMend(t, "at the greatest depth", nested(api.MaxDepth, n), dNested(api.MaxDepth, dInt(1)), dNested(api.MaxDepth, dInt(3)), 1)
}

// What is mended may have more parts than a right document, and is told all the same.
func TestP5_3TooManyParts(t *testing.T) {
	wrong := slices.Repeat([]api.Doc{dInt(1)}, api.MaxParts-1)
	eight := dList(slices.Repeat([]api.Doc{dBool(0)}, 8)...)
	wantMend(t, "far too many parts", list(0, api.MaxParts, list(8, 8, yes())), dList(wrong...), dList(slices.Repeat([]api.Doc{eight}, api.MaxParts-1)...), api.MaxParts-1)
	wide := rec()
	for _, name := range names(api.MaxFields) {
		wide.Fields = append(wide.Fields, field(name, list(8, 8, list(8, 8, yes()))))
	}
	want := dRec(names(api.MaxFields), slices.Repeat([]api.Doc{dList(slices.Repeat([]api.Doc{eight}, 8)...)}, api.MaxFields)...)
	wantMend(t, "fields of far too many parts", wide, dRec(nil), want, api.MaxFields)
}

func TestP5_3Arg(t *testing.T) {
	for what, p := range kinds() {
		for why, x := range wrongTypes() {
			wantMend(t, what+" of a type: "+why, x, p.d, p.d, 0)
			wantMend(t, what+" within, of a type: "+why, x, dList(p.d), dList(p.d), 0)
		}
		for why, d := range wrongDocs() {
			wantMend(t, what+", and a document: "+why, p.t, d, d, 0)
			wantMend(t, what+", and a list of a document: "+why, p.t, dList(d), dList(d), 0)
		}
	}
	wantMend(t, "neither", api.Type{}, api.Doc{}, api.Doc{}, 0)
	all := api.Doc{Kind: 9, Num: 1, Str: "a", Keys: keys("b", "a"), Kids: []api.Doc{dInt(1), dBool(2), {}}}
	wantMend(t, "with all that may be", yes(), all, all, 0)
}

// mended is what Mend must tell, made of d by what All tells.
func mended(t api.Type, d api.Doc) (api.Doc, int) {
	errs, changes := map[string]api.Errno{}, 0
	all := valid.All(t, d)
	for _, f := range all {
		errs[showPath(f.Path)] = f.Err
	}
	var at func(d api.Doc, path, kinds []string) api.Doc
	at = func(d api.Doc, path, kinds []string) api.Doc {
		whole := map[string]api.Doc{}
		switch errs[showPath(path)] {
		case api.ErrType, api.ErrRange, api.ErrMiss:
			changes++
			x, _ := schema.At(t, kinds...)
			return schema.Least(x)
		}
		for i, kid := range d.Kids {
			key, kind := strconv.Itoa(i), "0"
			if d.Kind != api.DList {
				key, kind = d.Keys[i], d.Keys[i]
			}
			p := slices.Concat(path, keys(key))
			if errs[showPath(p)] == api.ErrMore {
				changes++
			} else {
				whole[key] = at(kid, p, slices.Concat(kinds, keys(kind)))
			}
		}
		for _, f := range all {
			if last := len(f.Path) - 1; f.Err == api.ErrMiss && last == len(path) && slices.Equal(f.Path[:last], path) {
				whole[f.Path[last]] = at(api.Doc{}, f.Path, slices.Concat(kinds, f.Path[last:]))
			}
		}
		return laid(d, whole)
	}
	return at(d, nil, nil), changes
}

// laid is d with these kids instead of its own.
func laid(d api.Doc, kids map[string]api.Doc) api.Doc {
	got := api.Doc{Kind: d.Kind, Num: d.Num, Str: d.Str}
	var l []string
	for key := range kids {
		l = append(l, key)
	}
	slices.SortFunc(l, func(a, b string) int {
		if d.Kind == api.DList && len(a) != len(b) {
			return len(a) - len(b)
		}
		return strings.Compare(a, b)
	})
	for _, key := range l {
		got.Kids = append(got.Kids, kids[key])
	}
	if d.Kind != api.DList {
		got.Keys = l
	}
	return got
}

func TestP5_3AnyPairs(t *testing.T) {
	often := 0
	for _, p := range anyPairs() {
		want, n := mended(p.t, p.d)
		wantMend(t, showType(p.t)+" of "+show(p.d), p.t, p.d, want, n)
		if n > 1 {
			often++
		}
	}
	if often < 500 {
		t.Errorf("%d alone were mended more than once", often)
	}
}
