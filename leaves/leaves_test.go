package leaves_test

import (
	"math/rand/v2"
	"slices"
	"strconv"
	"testing"

	"cabochon/api"
	"cabochon/leaves"
)

// ladder is paths that rise.
func ladder() [][]string {
	return [][]string{
		nil, {""}, {"", ""}, {"", "a"}, {"", "a", ""}, {"", "b"}, {"\x00"}, {"0"}, {"1"}, {"10"}, {"2"}, {"A"}, {"_"},
		{"a"}, {"a", ""}, {"a", "a"}, {"a", "a", "a"}, {"a", "b"}, {"a", "z"}, {"a\x00"}, {"a\x00", "a"}, {"a0"}, {"a_"}, {"aa"}, {"ab"}, {"ab", "a"},
		{"b"}, {"b", "a"}, {"ba"}, {"z", "z", "z"}, {"\x7f"}, {"\x80"}, {"\u00e4"}, {"\xff"}, {"\xff", "\xff"},
	}
}

func TestP3_1Less(t *testing.T) {
	l := ladder()
	for i, a := range l {
		for j, b := range l {
			if got, want := leaves.Less(a, slices.Clone(b)), min(1, max(-1, i-j)); got != want {
				t.Errorf("Less(%q, %q) is %d, not %d", a, b, got, want)
			}
		}
	}
	if leaves.Less(nil, []string{}) != 0 || leaves.Less([]string{}, nil) != 0 || leaves.Less([]string{}, keys("")) != -1 {
		t.Error("paths without parts")
	}
}

func TestP3_1LessOfLongOnes(t *testing.T) {
	long := slices.Repeat(keys("a"), 1<<16)
	other := slices.Clone(long)
	other[len(other)-1] = "b"
	for _, c := range []struct {
		what string
		a, b []string
		want int
	}{
		{"alike", long, slices.Clone(long), 0},
		{"a part more", append(slices.Clone(long), ""), long, 1},
		{"a part less", long[1:], long, -1},
		{"the last part", long, other, -1},
		{"a short one behind", long, keys("b"), -1},
	} {
		if got := leaves.Less(c.a, c.b); got != c.want {
			t.Errorf("%s: %d, not %d", c.what, got, c.want)
		}
		if got := leaves.Less(c.b, c.a); got != -c.want {
			t.Errorf("%s, turned: %d, not %d", c.what, got, -c.want)
		}
	}
}

func TestP3_1Sort(t *testing.T) {
	var rising []api.Leaf
	for i, path := range ladder() {
		rising = append(rising, leaf(num(i), path...))
	}
	falling := slices.Clone(rising)
	slices.Reverse(falling)
	r := rand.New(rand.NewPCG(5, 6))
	for what, l := range map[string][]api.Leaf{"rising": rising, "falling": falling, "shuffled": shuffled(r, rising)} {
		wantRow(t, what, leaves.Sort(l), rising)
	}
	for _, c := range []struct {
		what    string
		l, want []api.Leaf
	}{
		{"none", nil, nil},
		{"an empty row", row(), nil},
		{"one", row(leaf(num(1), "a")), row(leaf(num(1), "a"))},
		{"alike paths", row(leaf(num(2), "a"), leaf(num(1), "a"), leaf(num(3), "a")), row(leaf(num(2), "a"), leaf(num(1), "a"), leaf(num(3), "a"))},
		{"alike ones apart", row(leaf(num(2), "b"), leaf(num(9), "a"), leaf(num(1), "b"), leaf(num(8)), leaf(num(0), "b")), row(leaf(num(8)), leaf(num(9), "a"), leaf(num(2), "b"), leaf(num(1), "b"), leaf(num(0), "b"))},
		{"documents that are not right", row(leaf(rec(keys("b", "a"), num(1)), "b"), leaf(api.Doc{Kind: 9, Str: "x"}, "a")), row(leaf(api.Doc{Kind: 9, Str: "x"}, "a"), leaf(rec(keys("b", "a"), num(1)), "b"))},
	} {
		wantRow(t, c.what, leaves.Sort(c.l), c.want)
	}
}

func TestP3_1SortOfMany(t *testing.T) {
	r := rand.New(rand.NewPCG(7, 8))
	for n := range 200 {
		l := randomRow(r, n)
		wantRow(t, strconv.Itoa(n), leaves.Sort(l), sorted(l))
	}
	last := leaf(num(-1))
	for _, x := range leaves.Sort(randomRow(r, 1<<16)) {
		if c := ahead(last.Path, x.Path); c > 0 || c == 0 && last.Doc.Num >= x.Doc.Num {
			t.Fatalf("%q %d ahead of %q %d", last.Path, last.Doc.Num, x.Path, x.Doc.Num)
		}
		last = x
	}
}

func TestP3_1Find(t *testing.T) {
	l := row(leaf(num(1), "b"), leaf(num(2), "a", "b"), leaf(num(3)), leaf(num(4), "b"), leaf(num(5), "a", ""), leaf(num(6)), leaf(num(7), "ab"), leaf(num(8), "a", "b", "c"))
	for _, c := range []struct {
		path []string
		want int
	}{
		{nil, 2}, {[]string{}, 2}, {keys("b"), 0}, {keys("a", "b"), 1}, {keys("a", ""), 4}, {keys("ab"), 6}, {keys("a", "b", "c"), 7},
		{keys(""), -1}, {keys("a"), -1}, {keys("c"), -1}, {keys("A"), -1}, {keys("b", ""), -1}, {keys("b", "b"), -1}, {keys("a", "b", "d"), -1}, {keys("a", "b", "c", "d"), -1}, {keys("", "a"), -1},
	} {
		if got := leaves.Find(l, c.path); got != c.want {
			t.Errorf("Find(.., %q) is %d, not %d", c.path, got, c.want)
		}
		if got := leaves.Find(nil, c.path); got != -1 {
			t.Errorf("in no row %q is at %d", c.path, got)
		}
	}
	many := wideOf(1 << 16)
	for _, n := range []int{0, 1, 1<<16 - 2} {
		if got := leaves.Find(many, keys(strconv.Itoa(n))); got != n+1 {
			t.Errorf("of many, %d is at %d", n, got)
		}
	}
	if got := leaves.Find(many, keys(strconv.Itoa(1<<16-1))); got != -1 {
		t.Errorf("of many, what is not there is at %d", got)
	}
}

func TestP3_1Same(t *testing.T) {
	full := func() []api.Leaf {
		return row(leaf(rec(nil)), leaf(list(num(1), str("x")), "a"), leaf(num(2), "b", "c"))
	}
	if !leaves.Same(full(), full()) {
		t.Error("what is alike is not the same")
	}
	for what, change := range map[string]func(l []api.Leaf) []api.Leaf{
		"none":                    func(l []api.Leaf) []api.Leaf { return nil },
		"one less":                func(l []api.Leaf) []api.Leaf { return l[:2] },
		"the first one less":      func(l []api.Leaf) []api.Leaf { return l[1:] },
		"one more":                func(l []api.Leaf) []api.Leaf { return append(l, leaf(num(3), "d")) },
		"one twice":               func(l []api.Leaf) []api.Leaf { return append(l, l[2]) },
		"another order":           func(l []api.Leaf) []api.Leaf { return row(l[0], l[2], l[1]) },
		"a part":                  func(l []api.Leaf) []api.Leaf { l[2].Path[1] = "d"; return l },
		"the first part":          func(l []api.Leaf) []api.Leaf { l[2].Path[0] = "a"; return l },
		"a part more":             func(l []api.Leaf) []api.Leaf { l[1].Path = keys("a", ""); return l },
		"a part less":             func(l []api.Leaf) []api.Leaf { l[2].Path = keys("b"); return l },
		"no path":                 func(l []api.Leaf) []api.Leaf { l[1].Path = nil; return l },
		"a path more":             func(l []api.Leaf) []api.Leaf { l[0].Path = keys(""); return l },
		"a kind":                  func(l []api.Leaf) []api.Leaf { l[0].Doc.Kind = api.DDict; return l },
		"a number":                func(l []api.Leaf) []api.Leaf { l[2].Doc.Num = 3; return l },
		"bytes":                   func(l []api.Leaf) []api.Leaf { l[2].Doc.Str = "x"; return l },
		"a key":                   func(l []api.Leaf) []api.Leaf { l[0].Doc.Keys = keys("a"); return l },
		"a kid":                   func(l []api.Leaf) []api.Leaf { l[0].Doc.Kids = []api.Doc{num(1)}; return l },
		"a kid below":             func(l []api.Leaf) []api.Leaf { l[1].Doc.Kids[1].Str = "y"; return l },
		"a kid less":              func(l []api.Leaf) []api.Leaf { l[1].Doc.Kids = l[1].Doc.Kids[:1]; return l },
		"documents, but no paths": func(l []api.Leaf) []api.Leaf { l[1].Doc, l[2].Doc = l[2].Doc, l[1].Doc; return l },
	} {
		other := change(full())
		if leaves.Same(full(), other) || leaves.Same(other, full()) {
			t.Errorf("the same, but for %s", what)
		}
	}
	if !leaves.Same(nil, row()) || !leaves.Same(row(leaf(rec(nil))), row(leaf(rec([]string{}, []api.Doc{}...), []string{}...))) {
		t.Error("rows that are none and empty ones are not the same")
	}
}

func TestP3_4Moved(t *testing.T) {
	l := row(leaf(num(0)), leaf(num(1), "a"), leaf(num(2), "a", "x"), leaf(num(3), "a", "x", "y"), leaf(num(4), "aa"), leaf(num(5), "b"), leaf(num(6), "b", "a"))
	for _, c := range []struct {
		what     string
		from, to []string
		want     []api.Leaf
	}{
		{"to the end", keys("a"), keys("c"), row(l[0], l[4], l[5], l[6], leaf(num(1), "c"), leaf(num(2), "c", "x"), leaf(num(3), "c", "x", "y"))},
		{"to the front", keys("b"), keys("0"), row(l[0], leaf(num(5), "0"), leaf(num(6), "0", "a"), l[1], l[2], l[3], l[4])},
		{"upwards", keys("a", "x"), keys("x"), row(l[0], l[1], l[4], l[5], l[6], leaf(num(2), "x"), leaf(num(3), "x", "y"))},
		{"downwards", keys("b"), keys("a", "w", "b"), row(l[0], l[1], leaf(num(5), "a", "w", "b"), leaf(num(6), "a", "w", "b", "a"), l[2], l[3], l[4])},
		{"below itself", keys("b"), keys("b", "b"), row(l[0], l[1], l[2], l[3], l[4], leaf(num(5), "b", "b"), leaf(num(6), "b", "b", "a"))},
		{"to where some are", keys("a"), keys("b"), row(l[0], l[4], leaf(num(1), "b"), l[5], l[6], leaf(num(2), "b", "x"), leaf(num(3), "b", "x", "y"))},
		{"to where some are, from behind", keys("b"), keys("a"), row(l[0], l[1], leaf(num(5), "a"), leaf(num(6), "a", "a"), l[2], l[3], l[4])},
		{"to where it is", keys("a"), keys("a"), l},
		{"all to where they are", nil, nil, l},
		{"all below", nil, keys("z"), row(leaf(num(0), "z"), leaf(num(1), "z", "a"), leaf(num(2), "z", "a", "x"), leaf(num(3), "z", "a", "x", "y"), leaf(num(4), "z", "aa"), leaf(num(5), "z", "b"), leaf(num(6), "z", "b", "a"))},
		{"to no path", keys("b"), nil, row(l[0], leaf(num(5)), l[1], leaf(num(6), "a"), l[2], l[3], l[4])},
		{"one alone", keys("b", "a"), keys("c"), row(l[0], l[1], l[2], l[3], l[4], l[5], leaf(num(6), "c"))},
		{"from where none is", keys("c"), keys("d"), l},
		{"from below one", keys("aa", "a"), keys("d"), l},
		{"from within a part", keys(""), keys("d"), l},
		{"from a longer part", keys("aaa"), keys("d"), l},
		{"from behind a part", keys("x"), keys("d"), l},
	} {
		wantRow(t, c.what, leaves.Moved(l, c.from, c.to), c.want)
	}
	if got := leaves.Moved(nil, keys("a"), keys("b")); len(got) != 0 {
		t.Error("something of none")
	}
}

func TestP3_4MovedOfAnyRows(t *testing.T) {
	r := rand.New(rand.NewPCG(9, 10))
	for n := range 2000 {
		l, from, to := randomRow(r, n%20), randomPath(r), randomPath(r)
		want := slices.Clone(l)
		for i, x := range want {
			if len(x.Path) >= len(from) && ahead(x.Path[:len(from)], from) == 0 {
				want[i].Path = slices.Concat(to, x.Path[len(from):])
			}
		}
		wantRow(t, showPath(from)+" to "+showPath(to), leaves.Moved(l, from, to), sorted(want))
	}
}

func TestP3_5NothingIsChanged(t *testing.T) {
	r := rand.New(rand.NewPCG(11, 12))
	for _, d := range append(randoms(100), append(wrongs(), bushy(7))...) {
		l := roomyRow(shuffled(r, flat(d)))
		one, from, to := roomy(d), roomyPath(keys("a")), roomyPath(keys("b", "c"))
		before := showRowRoom(l) + showRoom(one) + showPath(from[:cap(from)]) + showPath(to[:cap(to)])
		leaves.Flat(one)
		leaves.Tree(l)
		leaves.Less(from, to)
		leaves.Sort(l)
		leaves.Find(l, from)
		leaves.Same(l, l)
		leaves.Moved(l, from, to)
		leaves.Moved(l, nil, to)
		if after := showRowRoom(l) + showRoom(one) + showPath(from[:cap(from)]) + showPath(to[:cap(to)]); after != before {
			t.Errorf("changed: %s", short(show(d)))
		}
	}
}

func TestP3_5AnswersAreNewMemory(t *testing.T) {
	for _, d := range append(randoms(100), append(wrongs(), bushy(7))...) {
		l := roomyRow(flat(d))
		one, from, to := roomy(d), roomyPath(keys("a")), roomyPath(keys("b", "c"))
		tree, _ := leaves.Tree(l)
		for what, got := range map[string]func(r *rooms){
			"Flat":               func(r *rooms) { r.row(leaves.Flat(one)) },
			"Sort":               func(r *rooms) { r.row(leaves.Sort(l)) },
			"Moved":              func(r *rooms) { r.row(leaves.Moved(l, from, to)) },
			"Moved, all":         func(r *rooms) { r.row(leaves.Moved(l, nil, to)) },
			"Moved, to no path":  func(r *rooms) { r.row(leaves.Moved(l, from, nil)) },
			"Moved, to the same": func(r *rooms) { r.row(leaves.Moved(l, from, from)) },
			"Tree":               func(r *rooms) { r.doc(tree) },
		} {
			before := showRowRoom(l) + showRoom(one) + showPath(from[:cap(from)]) + showPath(to[:cap(to)])
			var r rooms
			got(&r)
			if !r.apart() {
				t.Errorf("%s: parts of an answer share memory: %s", what, short(show(d)))
			}
			if after := showRowRoom(l) + showRoom(one) + showPath(from[:cap(from)]) + showPath(to[:cap(to)]); after != before {
				t.Errorf("%s: an answer shares memory with what was handed in: %s", what, short(show(d)))
			}
		}
	}
}
