package leaves_test

import (
	"math/rand/v2"
	"slices"
	"strconv"
	"strings"
	"testing"

	"cabochon/api"
	"cabochon/leaves"
)

// wrongs is documents that are not right, or not in order.
func wrongs() []api.Doc {
	return []api.Doc{
		{},
		{Kind: 9, Num: 1, Str: "x", Keys: keys("a"), Kids: []api.Doc{num(1)}},
		{Kind: api.DInt, Num: 1, Keys: keys("a"), Kids: []api.Doc{rec(keys("b"), num(1))}},
		{Kind: api.DList, Keys: keys("a", "b"), Kids: []api.Doc{num(1), rec(keys("b"), num(1))}},
		{Kind: api.DRec, Num: 7, Str: "x", Keys: keys("b", "a"), Kids: []api.Doc{num(1), num(2)}},
		{Kind: api.DDict, Num: -7, Str: "y", Keys: keys("a"), Kids: []api.Doc{{Kind: api.DRec, Num: 1, Keys: keys("A"), Kids: []api.Doc{{}}}}},
		rec(keys("a", "b"), num(1)),
		rec(keys("a"), num(1), num(2)),
		rec(nil, num(1), num(2)),
		dict(keys("a", "b")),
		dict(keys("a", "a"), num(1), num(2)),
		dict(keys("a", "b", "a"), dict(keys("y"), num(1)), num(2), dict(keys("x"), num(3))),
		rec(keys("a", "a"), rec(keys("b"), num(1)), rec(keys("b"), num(2))),
	}
}

func TestP3_2Flat(t *testing.T) {
	for _, c := range []struct {
		what string
		d    api.Doc
		want []api.Leaf
	}{
		{"a number", num(5), row(leaf(num(5)))},
		{"a bool", api.Doc{Kind: api.DBool, Num: 1}, row(leaf(api.Doc{Kind: api.DBool, Num: 1}))},
		{"bytes", str("x"), row(leaf(str("x")))},
		{"an empty list", list(), row(leaf(list()))},
		{"a list", list(num(1), rec(keys("a"), num(2))), row(leaf(list(num(1), rec(keys("a"), num(2)))))},
		{"an empty record", rec(nil), row(leaf(rec(nil)))},
		{"an empty dict", dict([]string{}), row(leaf(dict(nil)))},
		{"a record", rec(keys("a", "b"), num(1), str("x")), row(leaf(rec(nil)), leaf(num(1), "a"), leaf(str("x"), "b"))},
		{"a dict", dict(keys("", "A", "\xff"), num(1), list(), num(2)), row(leaf(dict(nil)), leaf(num(1), ""), leaf(list(), "A"), leaf(num(2), "\xff"))},
		{"the example", rec(keys("a", "b"), list(num(1)), dict(keys("x"), num(2))), row(leaf(rec(nil)), leaf(list(num(1)), "a"), leaf(dict(nil), "b"), leaf(num(2), "b", "x"))},
		{"those below ahead of those beside", rec(keys("a", "ab"), rec(keys("z"), num(1)), num(2)), row(leaf(rec(nil)), leaf(rec(nil), "a"), leaf(num(1), "a", "z"), leaf(num(2), "ab"))},
		{"empty ones below", rec(keys("a", "b"), rec(nil), dict(nil)), row(leaf(rec(nil)), leaf(rec(nil), "a"), leaf(dict(nil), "b"))},
		{"four below one another", chain(4), chainOf(4)},
	} {
		wantRow(t, c.what, leaves.Flat(c.d), c.want)
	}
	for _, d := range randoms(300) {
		wantRow(t, show(d), leaves.Flat(d), sorted(flat(d)))
	}
}

func TestP3_2FlatOfWrongOnes(t *testing.T) {
	for _, c := range []struct {
		what string
		d    api.Doc
		want []api.Leaf
	}{
		{"of no kind", api.Doc{}, row(leaf(api.Doc{}))},
		{"of no kind, with kids", api.Doc{Kind: 9, Keys: keys("a"), Kids: []api.Doc{num(1)}}, row(leaf(api.Doc{Kind: 9, Keys: keys("a"), Kids: []api.Doc{num(1)}}))},
		{"a list with keys", api.Doc{Kind: api.DList, Keys: keys("a"), Kids: []api.Doc{num(1)}}, row(leaf(api.Doc{Kind: api.DList, Keys: keys("a"), Kids: []api.Doc{num(1)}}))},
		{"a number with kids", api.Doc{Kind: api.DInt, Keys: keys("a"), Kids: []api.Doc{num(1)}}, row(leaf(api.Doc{Kind: api.DInt, Keys: keys("a"), Kids: []api.Doc{num(1)}}))},
		{"a record with a number and bytes", api.Doc{Kind: api.DRec, Num: 3, Str: "x", Keys: keys("a"), Kids: []api.Doc{num(1)}}, row(leaf(api.Doc{Kind: api.DRec, Num: 3, Str: "x"}), leaf(num(1), "a"))},
		{"falling keys", rec(keys("b", "a"), num(1), num(2)), row(leaf(rec(nil)), leaf(num(2), "a"), leaf(num(1), "b"))},
		{"keys that are no names", rec(keys("B", "1"), num(1), num(2)), row(leaf(rec(nil)), leaf(num(2), "1"), leaf(num(1), "B"))},
		{"alike keys", dict(keys("a", "a"), num(2), num(1)), row(leaf(dict(nil)), leaf(num(2), "a"), leaf(num(1), "a"))},
		{"alike keys, with kids", dict(keys("a", "b", "a"), dict(keys("y"), num(1)), num(2), dict(keys("x"), num(3))), row(leaf(dict(nil)), leaf(dict(nil), "a"), leaf(dict(nil), "a"), leaf(num(3), "a", "x"), leaf(num(1), "a", "y"), leaf(num(2), "b"))},
		{"a key without a kid", rec(keys("a", "b"), num(1)), row(leaf(rec(nil)), leaf(num(1), "a"))},
		{"a kid without a key", dict(keys("a"), num(1), num(2)), row(leaf(dict(nil)), leaf(num(1), "a"))},
		{"keys alone", dict(keys("a", "b")), row(leaf(dict(nil)))},
		{"kids alone", rec(nil, num(1)), row(leaf(rec(nil)))},
	} {
		wantRow(t, c.what, leaves.Flat(c.d), c.want)
	}
	many := dict(nil)
	for i := range 100 {
		many.Keys, many.Kids = append(many.Keys, []string{"c", "a", "b"}[i%3]), append(many.Kids, num(i))
	}
	for _, d := range append(wrongs(), many) {
		wantRow(t, show(d), leaves.Flat(d), sorted(flat(d)))
	}
}

func TestP3_2FlatOfGreatOnes(t *testing.T) {
	wantRow(t, "a deep one", leaves.Flat(chain(512)), chainOf(512))
	if got := leaves.Flat(chain(1 << 11)); len(got) != 1<<11 || len(got[1<<11-1].Path) != 1<<11-1 {
		t.Errorf("a deeper one has %d leaves", len(got))
	}
	deep := list()
	for range 1<<16 - 2 {
		deep = list(deep)
	}
	if got := leaves.Flat(deep); len(got) != 1 || len(got[0].Doc.Kids) != 1 {
		t.Errorf("lists within lists are %d leaves", len(got))
	}
	var wide api.Doc
	wide.Kind = api.DDict
	for i := range 1 << 16 {
		wide.Keys = append(wide.Keys, strconv.Itoa(1<<17-i))
		wide.Kids = append(wide.Kids, num(i))
	}
	got := leaves.Flat(wide)
	if len(got) != 1<<16+1 || !slices.IsSortedFunc(got, func(a, b api.Leaf) int { return ahead(a.Path, b.Path) }) {
		t.Errorf("a wide one has %d leaves", len(got))
	}
}

func TestP3_3Tree(t *testing.T) {
	name, key := strings.Repeat("m", api.MaxName), strings.Repeat("K", api.MaxBytes)
	for _, c := range []struct {
		what string
		l    []api.Leaf
		want api.Doc
	}{
		{"a number", row(leaf(num(5))), num(5)},
		{"a list", row(leaf(list(num(1), rec(keys("a"), num(2))))), list(num(1), rec(keys("a"), num(2)))},
		{"an empty record", row(leaf(rec(nil))), rec(nil)},
		{"an empty dict, empty rows", row(leaf(dict([]string{}, []api.Doc{}...), []string{}...)), dict(nil)},
		{"a record", row(leaf(rec(nil)), leaf(num(1), "a"), leaf(str("x"), "b")), rec(keys("a", "b"), num(1), str("x"))},
		{"a record, turned", row(leaf(str("x"), "b"), leaf(num(1), "a"), leaf(rec(nil))), rec(keys("a", "b"), num(1), str("x"))},
		{"a dict", row(leaf(num(2), "\xff"), leaf(list(), "A"), leaf(dict(nil)), leaf(num(1), "")), dict(keys("", "A", "\xff"), num(1), list(), num(2))},
		{"the example", row(leaf(num(2), "b", "x"), leaf(list(num(1)), "a"), leaf(dict(nil), "b"), leaf(rec(nil))), rec(keys("a", "b"), list(num(1)), dict(keys("x"), num(2)))},
		{"those beside behind those below", row(leaf(num(2), "ab"), leaf(rec(nil)), leaf(rec(nil), "a"), leaf(num(1), "a", "z")), rec(keys("a", "ab"), rec(keys("z"), num(1)), num(2))},
		{"a long name", row(leaf(rec(nil)), leaf(num(1), name)), rec(keys(name), num(1))},
		{"a long key", row(leaf(dict(nil)), leaf(num(1), key)), dict(keys(key), num(1))},
		{"as deep as may be", chainOf(api.MaxDepth), chain(api.MaxDepth)},
	} {
		wantTree(t, c.what, c.l, c.want)
	}
	if d, err := leaves.Tree(wideOf(api.MaxParts)); err != api.OK || len(d.Kids) != api.MaxParts-1 {
		t.Errorf("all parts: %d kids, %v", len(d.Kids), err)
	}
}

func TestP3_3TreeTwice(t *testing.T) {
	for what, l := range map[string][]api.Leaf{
		"the root":                 row(leaf(rec(nil)), leaf(rec(nil))),
		"the root, none and empty": row(leaf(rec(nil)), leaf(rec(nil), []string{}...)),
		"unlike ones":              row(leaf(rec(nil)), leaf(num(1), "a"), leaf(num(2), "a")),
		"apart":                    row(leaf(num(1), "a"), leaf(num(3), "b"), leaf(rec(nil)), leaf(num(2), "a")),
		"below":                    row(leaf(rec(nil)), leaf(rec(nil), "a"), leaf(num(1), "a", "b"), leaf(num(1), "a", "b")),
		"and no root":              row(leaf(num(1), "a"), leaf(num(2), "a")),
		"and no home":              row(leaf(rec(nil)), leaf(num(1), "a", "b"), leaf(num(2), "a", "b")),
		"and another has no home":  row(leaf(rec(nil)), leaf(num(1), "a", "b"), leaf(num(2), "c"), leaf(num(3), "c")),
		"and not right":            row(leaf(num(1)), leaf(num(1), "A"), leaf(num(2), "A")),
		"of no kind":               row(leaf(api.Doc{}), leaf(api.Doc{})),
		"and too many":             append(wideOf(1<<12), leaf(num(1), "7")),
	} {
		wantNoTree(t, what, l, api.ErrTwice)
	}
}

func TestP3_3TreeMiss(t *testing.T) {
	for what, l := range map[string][]api.Leaf{
		"none":                      nil,
		"an empty row":              row(),
		"no root":                   row(leaf(num(1), "a")),
		"no root, but an empty key": row(leaf(dict(nil), ""), leaf(num(1), "", "a")),
		"no home":                   row(leaf(rec(nil)), leaf(num(1), "a", "b")),
		"no home but one beside":    row(leaf(rec(nil)), leaf(rec(nil), "a"), leaf(num(1), "b", "b")),
		"no home but one of more":   row(leaf(rec(nil)), leaf(rec(nil), "aa"), leaf(num(1), "a", "b")),
		"no home but one of less":   row(leaf(rec(nil)), leaf(rec(nil), "a"), leaf(num(1), "aa", "b")),
		"no home of the last one":   row(leaf(rec(nil)), leaf(rec(nil), "a"), leaf(num(1), "a", "b"), leaf(num(1), "a", "c", "d")),
		"two homes less":            row(leaf(rec(nil)), leaf(rec(nil), "a"), leaf(num(1), "a", "b", "c", "d")),
		"a home of homes less":      row(leaf(rec(nil)), leaf(rec(nil), "a", "b"), leaf(num(1), "a", "b", "c")),
		"and not right":             row(leaf(num(1)), leaf(num(1), "A"), leaf(api.Doc{}, "B", "C")),
		"and its home is a number":  row(leaf(rec(nil)), leaf(num(1), "a"), leaf(num(1), "a", "b"), leaf(num(1), "c", "d")),
		"and too deep":              chainOf(64)[1:],
		"and too many":              wideOf(1 << 12)[1:],
	} {
		wantNoTree(t, what, l, api.ErrMiss)
	}
}

func TestP3_3TreeArg(t *testing.T) {
	below := func(d api.Doc) []api.Leaf { return row(leaf(d), leaf(num(1), "a")) }
	for what, l := range map[string][]api.Leaf{
		"of no kind":                      row(leaf(api.Doc{})),
		"of a kind above":                 row(leaf(api.Doc{Kind: 7})),
		"below no kind":                   below(api.Doc{}),
		"below a number":                  below(num(1)),
		"below a bool":                    below(api.Doc{Kind: api.DBool}),
		"below bytes":                     below(str("x")),
		"below a list":                    below(list()),
		"below a list, by a place":        row(leaf(list(num(1))), leaf(num(1), "0")),
		"below a list, at its end":        row(leaf(list()), leaf(num(1), "0")),
		"below what has it":               below(rec(keys("a"), num(1))),
		"below what has another":          below(rec(keys("b"), num(1))),
		"below what has one ahead":        below(dict(keys("A"), num(1))),
		"below what has a key":            below(dict(keys("a"))),
		"below what has a kid":            below(rec(nil, num(1))),
		"a record with a field":           row(leaf(rec(keys("a"), num(1)))),
		"a dict with an entry":            row(leaf(dict(keys("a"), num(1)))),
		"a record with a field, below":    row(leaf(rec(nil)), leaf(rec(keys("a"), num(1)), "a")),
		"a record with a key":             row(leaf(rec(keys("a")))),
		"a record with a kid":             row(leaf(rec(nil, num(1)))),
		"a record with a number":          below(api.Doc{Kind: api.DRec, Num: 1}),
		"a dict with bytes":               below(api.Doc{Kind: api.DDict, Str: "x"}),
		"a bool that is 2":                row(leaf(rec(nil)), leaf(api.Doc{Kind: api.DBool, Num: 2}, "a")),
		"bytes too long":                  row(leaf(rec(nil)), leaf(str(strings.Repeat("x", api.MaxBytes+1)), "a")),
		"a wrong list":                    row(leaf(rec(nil)), leaf(list(num(1), api.Doc{}), "a")),
		"a field of no name":              row(leaf(rec(nil)), leaf(num(1), "A")),
		"a field of an empty one":         row(leaf(rec(nil)), leaf(num(1), "")),
		"a field of a long one":           row(leaf(rec(nil)), leaf(num(1), strings.Repeat("a", api.MaxName+1))),
		"a field below of no name":        row(leaf(rec(nil)), leaf(rec(nil), "a"), leaf(num(1), "a", "1")),
		"a long key":                      row(leaf(dict(nil)), leaf(num(1), strings.Repeat("a", api.MaxBytes+1))),
		"too deep":                        chainOf(api.MaxDepth + 1),
		"too deep by a list":              append(chainOf(api.MaxDepth-1), leaf(list(num(1)), slices.Repeat(keys("a"), api.MaxDepth-1)...)),
		"far too deep":                    chainOf(1 << 10),
		"a part too many":                 wideOf(api.MaxParts + 1),
		"a part too many, within a list":  append(wideOf(api.MaxParts-1), leaf(list(num(1)), "x")),
		"far too many parts":              wideOf(1 << 14),
		"one below a number below a dict": row(leaf(dict(nil)), leaf(num(1), "a"), leaf(num(1), "a", "b")),
	} {
		wantNoTree(t, what, l, api.ErrArg)
	}
}

// told is what Tree tells of l, found by the promise alone: of all that are right, which has just these leaves.
func told(l []api.Leaf, all map[string]api.Doc) (api.Doc, api.Errno) {
	miss := !slices.ContainsFunc(l, func(x api.Leaf) bool { return len(x.Path) == 0 })
	for i, x := range l {
		home := false
		for j, y := range l {
			if i != j && ahead(x.Path, y.Path) == 0 {
				return api.Doc{}, api.ErrTwice
			}
			home = home || len(x.Path) > 0 && ahead(x.Path[:len(x.Path)-1], y.Path) == 0
		}
		miss = miss || len(x.Path) > 0 && !home
	}
	if miss {
		return api.Doc{}, api.ErrMiss
	}
	if d, is := all[showRow(sorted(l))]; is {
		return d, api.OK
	}
	return api.Doc{}, api.ErrArg
}

// universe is all right documents of records, dictionaries and the number 1, of the keys A and a, by their leaves.
func universe(depth int) []api.Doc {
	l := []api.Doc{num(1)}
	below := []api.Doc{}
	if depth > 1 {
		below = universe(depth - 1)
	}
	l = append(l, rec(nil), dict(nil))
	for _, x := range below {
		l = append(l, rec(keys("a"), x), dict(keys("a"), x), dict(keys("A"), x))
		for _, y := range below {
			l = append(l, dict(keys("A", "a"), x, y))
		}
	}
	return l
}

// All rows of up to four leaves of a few paths and documents are held against the promise itself.
func TestP3_3TreeOfAllSmallRows(t *testing.T) {
	all := map[string]api.Doc{}
	for _, d := range universe(3) {
		all[showRow(sorted(flat(d)))] = d
	}
	var some []api.Leaf
	for _, path := range [][]string{{}, {"A"}, {"a"}, {"a", "A"}, {"a", "a"}} {
		for _, d := range []api.Doc{num(1), rec(nil), dict(nil), {}, rec(keys("a"), num(1))} {
			some = append(some, leaf(d, path...))
		}
	}
	often := map[api.Errno]int{}
	var hold func(l []api.Leaf)
	hold = func(l []api.Leaf) {
		want, wrong := told(l, all)
		got, err := leaves.Tree(l)
		often[err]++
		if err != wrong || show(got) != show(want) {
			t.Fatalf("%sgot %s, %v, want %s, %v", showRow(l), show(got), err, show(want), wrong)
		}
		if len(l) == 4 {
			return
		}
		for _, x := range some {
			hold(append(l[:len(l):len(l)], x))
		}
	}
	hold(nil)
	for _, err := range []api.Errno{api.OK, api.ErrArg, api.ErrTwice, api.ErrMiss} {
		if often[err] == 0 {
			t.Errorf("no row told %v", err)
		}
	}
}

func TestP3_6ThereAndBack(t *testing.T) {
	r := rand.New(rand.NewPCG(13, 14))
	for _, d := range randoms(500) {
		l := leaves.Flat(d)
		wantTree(t, "in order", l, d)
		for range 4 {
			wantTree(t, "in another order", shuffled(r, l), d)
		}
	}
}

func TestP3_6UnlikeOnesHaveUnlikeLeaves(t *testing.T) {
	seen := map[string]string{}
	for _, d := range append(randoms(2000), universe(3)...) {
		at := showRow(leaves.Flat(d))
		if other, is := seen[at]; is && other != show(d) {
			t.Errorf("%s and %s have alike leaves", other, show(d))
		}
		seen[at] = show(d)
	}
}

// No call panics, whatever it is given.
func TestW1AnyRows(t *testing.T) {
	r := rand.New(rand.NewPCG(15, 16))
	docs := append(wrongs(), randoms(20)...)
	for n := range 2000 {
		var l []api.Leaf
		for range n % 8 {
			l = append(l, leaf(docs[r.IntN(len(docs))], randomPath(r)...))
		}
		from, to := randomPath(r), randomPath(r)
		wantRow(t, "any rows", leaves.Sort(l), sorted(l))
		leaves.Moved(l, from, to)
		if i := leaves.Find(l, from); i >= len(l) || i >= 0 && ahead(l[i].Path, from) != 0 {
			t.Errorf("Find is %d", i)
		}
		if !leaves.Same(l, l) {
			t.Error("a row is not the same as itself")
		}
		if d, err := leaves.Tree(l); err != api.OK && show(d) != show(api.Doc{}) {
			t.Errorf("%s beside %v", show(d), err)
		}
	}
}
