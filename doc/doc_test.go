package doc_test

import (
	"math/rand/v2"
	"slices"
	"strconv"
	"strings"
	"testing"

	"cabochon/api"
	"cabochon/doc"
)

func TestP1_1Name(t *testing.T) {
	long := strings.Repeat("a", api.MaxName)
	for s, want := range map[string]bool{
		"a": true, "z": true, "a_": true, "a9_z": true, "true": true, long: true, "a" + strings.Repeat("_", api.MaxName-1): true,
		"": false, "_": false, "_a": false, "9a": false, "A": false, "aA": false, "a-b": false, "a b": false, " a": false, "a ": false,
		long + "a": false, strings.Repeat("a", 1<<16): false, "ä": false, "aä": false, "a\x00": false, "a\xff": false,
	} {
		if doc.Name(s) != want {
			t.Errorf("Name(%q) is not %v", s, want)
		}
	}
}

func TestP1_1NameOfEachByte(t *testing.T) {
	const first = "abcdefghijklmnopqrstuvwxyz"
	const other = first + "0123456789_"
	for b := range 256 {
		one := string([]byte{byte(b)})
		if doc.Name(one) != strings.Contains(first, one) {
			t.Errorf("Name(%q)", one)
		}
		for _, s := range []string{"a" + one, "a" + one + "a", strings.Repeat("a", api.MaxName-1) + one} {
			if doc.Name(s) != strings.Contains(other, one) {
				t.Errorf("Name(%q)", s)
			}
		}
	}
}

func TestP1_1DepthAndSize(t *testing.T) {
	for _, c := range []struct {
		what        string
		d           api.Doc
		depth, size int
	}{
		{"a zero one", api.Doc{}, 1, 1},
		{"a number", num(5), 1, 1},
		{"an empty list", list(), 1, 1},
		{"an empty row of kids", api.Doc{Kind: api.DList, Kids: []api.Doc{}}, 1, 1},
		{"a list", list(num(1), num(2)), 2, 3},
		{"the deepest first", list(list(list(num(1))), num(2)), 4, 5},
		{"the deepest last", rec(keys("a", "b"), num(1), dict(keys("x"), list(num(2)))), 4, 5},
		{"a number with kids", api.Doc{Kind: api.DInt, Kids: []api.Doc{num(1), num(2)}}, 2, 3},
		{"of no kind, with kids", api.Doc{Kind: 9, Kids: []api.Doc{{Kind: 9, Kids: []api.Doc{{}}}}}, 3, 3},
		{"more keys than kids", rec(keys("a", "b", "c"), num(1)), 2, 2},
		{"as deep as may be", chain(api.MaxDepth), 12, 12},
		{"a chain", chain(1 << 16), 1 << 16, 1 << 16},
		{"a wide one", wide(1 << 17), 2, 1 << 17},
	} {
		if got := doc.Depth(c.d); got != c.depth {
			t.Errorf("%s: Depth is %d, not %d", c.what, got, c.depth)
		}
		if got := doc.Size(c.d); got != c.size {
			t.Errorf("%s: Size is %d, not %d", c.what, got, c.size)
		}
	}
}

func TestP1_1Right(t *testing.T) {
	for what, d := range right() {
		if !doc.Right(d) {
			t.Errorf("not right: %s", what)
		}
	}
	for what, d := range wrong() {
		if doc.Right(d) {
			t.Errorf("right: %s", what)
		}
	}
	for _, d := range randoms(300) {
		if !doc.Right(d) {
			t.Errorf("not right: %s", show(d))
		}
	}
}

func TestP1_1Same(t *testing.T) {
	full := func() api.Doc {
		return api.Doc{Kind: 1, Num: 2, Str: "x", Keys: keys("a", "b"), Kids: []api.Doc{num(1), list(num(2))}}
	}
	if !doc.Same(full(), full()) {
		t.Error("what is alike is not the same")
	}
	for what, change := range map[string]func(d *api.Doc){
		"the kind":        func(d *api.Doc) { d.Kind = 2 },
		"the number":      func(d *api.Doc) { d.Num = 3 },
		"the bytes":       func(d *api.Doc) { d.Str = "y" },
		"a key":           func(d *api.Doc) { d.Keys[1] = "c" },
		"the keys' order": func(d *api.Doc) { d.Keys[0], d.Keys[1] = "b", "a" },
		"a key more":      func(d *api.Doc) { d.Keys = append(d.Keys, "c") },
		"a key less":      func(d *api.Doc) { d.Keys = d.Keys[:1] },
		"no keys":         func(d *api.Doc) { d.Keys = nil },
		"a kid":           func(d *api.Doc) { d.Kids[0] = num(9) },
		"a kid below":     func(d *api.Doc) { d.Kids[1].Kids[0].Num = 9 },
		"a kid more":      func(d *api.Doc) { d.Kids = append(d.Kids, num(1)) },
		"a kid less":      func(d *api.Doc) { d.Kids = d.Kids[:1] },
		"no kids":         func(d *api.Doc) { d.Kids = nil },
	} {
		other := full()
		change(&other)
		if doc.Same(full(), other) || doc.Same(other, full()) {
			t.Errorf("the same, but for %s", what)
		}
	}
	if !doc.Same(list(rec(nil), dict(nil)), list(rec([]string{}, []api.Doc{}...), api.Doc{Kind: api.DDict, Keys: []string{}, Kids: []api.Doc{}})) {
		t.Error("rows that are none and empty ones are not the same")
	}
	if !doc.Same(chain(1<<16), chain(1<<16)) || doc.Same(chain(1<<16), chain(1<<16-1)) {
		t.Error("chains")
	}
}

func TestP1_1Copy(t *testing.T) {
	for _, docs := range []map[string]api.Doc{right(), wrong()} {
		for what, d := range docs {
			if c := doc.Copy(d); show(c) != show(d) {
				t.Errorf("%s: copied it is %s", what, show(c))
			}
		}
	}
	d := roomy(rec(keys("a", "b"), list(num(1), list(num(2))), dict(keys("x"), list())))
	before := showRoom(d)
	scribble(doc.Copy(d))
	if showRoom(d) != before {
		t.Error("a copy shares memory with what it was made of")
	}
	twin := list(num(1))
	if !apart(doc.Copy(list(twin, list(twin), twin))) {
		t.Error("parts of a copy share memory")
	}
}

func TestP1_2Compare(t *testing.T) {
	l := ladder()
	for i, a := range l {
		for j, b := range l {
			if got, want := doc.Compare(a, b), min(1, max(-1, i-j)); got != want {
				t.Errorf("Compare(%s, %s) is %d, not %d", show(a), show(b), got, want)
			}
		}
	}
	if doc.Compare(list(), api.Doc{Kind: api.DList, Keys: []string{}, Kids: []api.Doc{}}) != 0 {
		t.Error("rows that are none and empty ones differ")
	}
}

func TestP1_5Rec(t *testing.T) {
	for _, c := range []struct {
		what string
		got  api.Doc
		want api.Doc
	}{
		{"none", doc.Rec(nil, nil), rec(nil)},
		{"none, empty rows", doc.Rec([]string{}, []api.Doc{}), rec(nil)},
		{"one", doc.Rec(keys("a"), []api.Doc{num(1)}), rec(keys("a"), num(1))},
		{"falling ones", doc.Rec(keys("c", "b", "a"), []api.Doc{num(1), num(2), num(3)}), rec(keys("a", "b", "c"), num(3), num(2), num(1))},
		{"alike ones", doc.Rec(keys("a", "a"), []api.Doc{num(1), num(2)}), rec(keys("a"), num(2))},
		{"alike ones apart", doc.Rec(keys("b", "a", "b", "c", "a", "b"), []api.Doc{num(1), num(2), num(3), num(4), num(5), num(6)}), rec(keys("a", "b", "c"), num(5), num(6), num(4))},
		{"keys that are no names", doc.Rec(keys("z", "", "B", "\xff"), []api.Doc{num(1), num(2), num(3), num(4)}), rec(keys("", "B", "z", "\xff"), num(2), num(3), num(1), num(4))},
		{"a kid that is not right", doc.Rec(keys("a"), []api.Doc{{}}), rec(keys("a"), api.Doc{})},
		{"a key too many", doc.Rec(keys("a", "b"), []api.Doc{num(1)}), api.Doc{}},
		{"alike keys, a kid", doc.Rec(keys("a", "a"), []api.Doc{num(1)}), api.Doc{}},
		{"a kid too many", doc.Rec(keys("a"), []api.Doc{num(1), num(2)}), api.Doc{}},
		{"no keys", doc.Rec(nil, []api.Doc{num(1)}), api.Doc{}},
		{"no kids", doc.Rec(keys("a"), nil), api.Doc{}},
	} {
		wantDoc(t, c.what, c.got, c.want)
	}
}

func TestP1_5RecOfMany(t *testing.T) {
	r := rand.New(rand.NewPCG(3, 4))
	var ks []string
	var kids []api.Doc
	last := map[string]int{}
	for i := range 1 << 16 {
		k := strconv.Itoa(r.IntN(1 << 14))
		ks, kids = append(ks, k), append(kids, num(i))
		last[k] = i
	}
	d := doc.Rec(ks, kids)
	if len(d.Keys) != len(last) || len(d.Kids) != len(last) || !slices.IsSorted(d.Keys) {
		t.Fatalf("%d keys, %d kids of %d", len(d.Keys), len(d.Kids), len(last))
	}
	for i, k := range d.Keys {
		if d.Kids[i].Num != last[k] {
			t.Errorf("%s: %d, not %d", k, d.Kids[i].Num, last[k])
		}
	}
}

func TestP1_5Others(t *testing.T) {
	for _, n := range []int{0, 1, -1, api.MinInt, api.MaxInt} {
		wantDoc(t, "Int", doc.Int(n), api.Doc{Kind: api.DInt, Num: n})
	}
	wantDoc(t, "Bool(true)", doc.Bool(true), api.Doc{Kind: api.DBool, Num: 1})
	wantDoc(t, "Bool(false)", doc.Bool(false), api.Doc{Kind: api.DBool})
	for _, s := range []string{"", "a", "\x00\xff", strings.Repeat("a", api.MaxBytes+1)} {
		wantDoc(t, "Bytes", doc.Bytes(s), api.Doc{Kind: api.DBytes, Str: s})
	}
	wantDoc(t, "List()", doc.List(), api.Doc{Kind: api.DList})
	wantDoc(t, "List of some", doc.List(num(2), api.Doc{}, num(1)), api.Doc{Kind: api.DList, Kids: []api.Doc{num(2), {}, num(1)}})
	wantDoc(t, "List of a row", doc.List([]api.Doc{list(num(1)), num(1)}...), list(list(num(1)), num(1)))
}

// No call panics, whatever it is given, and what looks at documents that are not right looks at them as at others.
func TestW1AnyDocuments(t *testing.T) {
	var l []api.Doc
	for _, d := range wrong() {
		l = append(l, d)
	}
	l = append(l, ladder()...)
	for _, a := range l {
		for _, path := range [][]string{nil, {""}, {"a"}, {"0"}, {"a", "a"}, {"0", "0"}, {"-1"}, {"b"}} {
			got, is := doc.Get(a, path...)
			if !is {
				wantZero(t, "beside a false", got)
			}
			if _, err := doc.Drop(a, path...); (err == api.ErrArg) != (!doc.Right(a) || len(path) == 0) {
				t.Errorf("%v at %q of a document that is right: %v", err, path, doc.Right(a))
			}
		}
		for _, b := range l {
			if c := doc.Compare(a, b); c != -doc.Compare(b, a) || (c == 0) != doc.Same(a, b) {
				t.Errorf("Compare is %d", c)
			}
		}
		if r := doc.Rec(a.Keys, a.Kids); len(a.Keys) != len(a.Kids) {
			wantZero(t, "beside rows of unlike lengths", r)
		}
	}
}
