package dag_test

import (
	"slices"
	"strconv"
	"testing"

	"cabochon/api"
	"cabochon/dag"
)

// some is a row that has a fork, two merges of it, and a commit that stands alone.
func some() [][]int { return row("none; 0; 0; 1 2; 1 2; none; 3") }

func TestP14_1Behind(t *testing.T) {
	for k, wanted := range []string{"0", "0 1", "0 2", "0 1 2 3", "0 1 2 4", "5", "0 1 2 3 6"} {
		wantList(t, "behind "+strconv.Itoa(k), dag.Behind(some(), k), row(wanted)[0])
	}
	for _, l := range [][][]int{line(64), braid(64)} {
		for k := range l {
			wantList(t, "behind "+strconv.Itoa(k)+" of "+show(l), dag.Behind(l, k), places(k+1))
		}
	}
	wantList(t, "who is come to last stands first", dag.Behind(row("none; none; none; 0; 2 3"), 4), []int{0, 2, 3, 4})
}

func TestP14_1Is(t *testing.T) {
	for a := range some() {
		for b, behind := range row("0; 0 1; 0 2; 0 1 2 3; 0 1 2 4; 5; 0 1 2 3 6") {
			if got := dag.Is(some(), a, b); got != slices.Contains(behind, a) {
				t.Errorf("%d, %d: %v", a, b, got)
			}
		}
	}
	for a := range 64 {
		for b := range 64 {
			if dag.Is(line(64), a, b) != (a <= b) || dag.Is(braid(64), a, b) != (a <= b) || dag.Is(make([][]int, 64), a, b) != (a == b) {
				t.Errorf("%d, %d", a, b)
			}
			if dag.Is(ladder(64), a, b) != (a == b || a/2 < b/2) {
				t.Errorf("%d, %d of a ladder", a, b)
			}
		}
	}
}

func TestP14_1Depth(t *testing.T) {
	for _, c := range []struct {
		row    string
		depths []int
	}{
		{"none", []int{1}},
		{"none; none", []int{1, 1}},
		{"none; 0; 0; 1 2; 1 2; none; 3", []int{1, 2, 2, 3, 3, 1, 4}},
		{"none; 0; 1; 0 2", []int{1, 2, 3, 4}},
		{"none; 0; 1; none; 2 3; 3 4", []int{1, 2, 3, 1, 4, 5}},
		{"none; none; 1; 2; 0 3; 0 1", []int{1, 1, 2, 3, 4, 2}},
	} {
		for k, wanted := range c.depths {
			if got := dag.Depth(row(c.row), k); got != wanted {
				t.Errorf("%d of %s: %d, not %d", k, c.row, got, wanted)
			}
		}
	}
	for k := range 64 {
		if dag.Depth(line(64), k) != k+1 || dag.Depth(make([][]int, 64), k) != 1 || dag.Depth(ladder(64), k) != k/2+1 {
			t.Errorf("%d: %d, %d, %d", k, dag.Depth(line(64), k), dag.Depth(make([][]int, 64), k), dag.Depth(ladder(64), k))
		}
		if dag.Depth(braid(64), k) != k+1 {
			t.Errorf("%d of a braid: %d", k, dag.Depth(braid(64), k))
		}
	}
}

// The example of the chapter, and more of its kind.
func TestP14_2Bases(t *testing.T) {
	for _, c := range []struct {
		row           string
		a, b          int
		common, bases string
		base          int
	}{
		{"none; 0; 0; 1 2; 1 2", 3, 4, "0 1 2", "1 2", 2},
		{"none; 0; 0; 1 2; 1 2", 1, 2, "0", "0", 0},
		{"none; 0; 0; 1 2; 1 2", 1, 3, "0 1", "1", 1},
		{"none; 0; 0; 1 2; 1 2", 3, 1, "0 1", "1", 1},
		{"none; 0; 0; 1 2; 1 2", 3, 3, "0 1 2 3", "3", 3},
		{"none; 0; 0; 1 2; 1 2", 0, 0, "0", "0", 0},
		{"none; none", 0, 1, "none", "none", -1},
		{"none; none; 0 1; 0 1", 2, 3, "0 1", "0 1", 1},
		{"none; none; 0; 1; 0 1", 2, 3, "none", "none", -1},
		{"none; none; 0; 1; 0 1", 2, 4, "0", "0", 0},
		{"none; none; 0; 1; 0 1", 3, 4, "1", "1", 1},
		{"none; 0; 1; 2; 0", 3, 4, "0", "0", 0},
		{"none; 0; 0; 1 2; 3; 3; 4 5; 4 5", 6, 7, "0 1 2 3 4 5", "4 5", 5},
		{"none; 0; 0; 1 2; 1 2; 3 4; 3 4", 5, 6, "0 1 2 3 4", "3 4", 4},
		{"none; none; none; 0 1; 2 3; 0 1; 2 5; 4 6; 4 6", 4, 6, "0 1 2", "0 1 2", 2},
		{"none; 0; 1; 0 2; 2; 0 4", 3, 5, "0 1 2", "2", 2},
		{"none; none; 0; 1 2; 1 2; 0 1", 3, 4, "0 1 2", "1 2", 2},
		{"none; none; 0; 1 2; 1 2; 0 1", 3, 5, "0 1", "0 1", 1},
	} {
		l := row(c.row)
		what := strconv.Itoa(c.a) + " and " + strconv.Itoa(c.b) + " of " + c.row
		for _, ab := range [][2]int{{c.a, c.b}, {c.b, c.a}} {
			wantList(t, "Common, "+what, dag.Common(l, ab[0], ab[1]), row(c.common)[0])
			wantList(t, "Bases, "+what, dag.Bases(l, ab[0], ab[1]), row(c.bases)[0])
			if got := dag.Base(l, ab[0], ab[1]); got != c.base {
				t.Errorf("Base, %s: %d", what, got)
			}
		}
	}
}

// Both of the last pair have all ahead of them behind them: the bases are the pair ahead alone.
func TestP14_2BasesOfALadder(t *testing.T) {
	l := ladder(64)
	wantList(t, "common", dag.Common(l, 62, 63), places(62))
	wantList(t, "bases", dag.Bases(l, 62, 63), []int{60, 61})
}

// 22 stand alone, and two have all of these behind them, by rows of merges: one from the first on, one from the last on.
func TestP14_2ManyBases(t *testing.T) {
	alone := places(22)
	l := make([][]int, 22)
	l = append(l, merges(alone, len(l))...)
	one := len(l) - 1
	slices.Reverse(alone)
	l = append(l, merges(alone, len(l))...)
	other := len(l) - 1
	if other != 63 || !dag.Right(l) {
		t.Errorf("the last is %d, in %s", other, show(l))
	}
	wantList(t, "common", dag.Common(l, one, other), places(22))
	wantList(t, "bases", dag.Bases(l, one, other), places(22))
	if got := dag.Base(l, one, other); got != 21 {
		t.Errorf("base %d", got)
	}
}

// merges is commits from the place at on: the first has the first two of order as parents, each other one the next of order and the commit ahead of it.
func merges(order []int, at int) [][]int {
	l := [][]int{{min(order[0], order[1]), max(order[0], order[1])}}
	for i, k := range order[2:] {
		l = append(l, []int{k, at + i})
	}
	return l
}

func TestP14_3Heads(t *testing.T) {
	for _, c := range [][2]string{
		{"none", "0"}, {"none; none", "0 1"}, {"none; 0", "1"}, {"none; 0; 0", "1 2"}, {"none; 0; 0; 1 2; 1 2", "3 4"},
		{"none; 0; 0; 1 2; 1 2; none; 3", "4 5 6"}, {"none; none; 0 1", "2"}, {"none; 0; 0 1", "2"}, {"none; none; none; 0 2", "1 3"},
	} {
		wantList(t, c[0], dag.Heads(row(c[0])), row(c[1])[0])
	}
	wantList(t, "of none", dag.Heads(nil), nil)
	wantList(t, "of none", dag.Heads([][]int{}), nil)
	wantList(t, "a line", dag.Heads(line(64)), []int{63})
	wantList(t, "a braid", dag.Heads(braid(64)), []int{63})
	wantList(t, "a ladder", dag.Heads(ladder(64)), []int{62, 63})
	wantList(t, "each alone", dag.Heads(make([][]int, 64)), places(64))
}

func TestP14_3New(t *testing.T) {
	for _, c := range []struct {
		a, b  int
		fresh string
	}{
		{1, 3, "2 3"}, {3, 1, "none"}, {0, 3, "1 2 3"}, {3, 3, "none"}, {3, 4, "4"}, {4, 3, "3"}, {1, 2, "2"}, {5, 3, "0 1 2 3"}, {3, 5, "5"}, {4, 6, "3 6"}, {6, 4, "4"}, {0, 0, "none"},
	} {
		wantList(t, strconv.Itoa(c.a)+", "+strconv.Itoa(c.b), dag.New(some(), c.a, c.b), row(c.fresh)[0])
	}
	wantList(t, "a line", dag.New(line(64), 40, 63), places(64)[41:])
	wantList(t, "a braid", dag.New(braid(64), 62, 63), []int{63})
	wantList(t, "a ladder", dag.New(ladder(64), 62, 63), []int{63})
}

// Of a place that is none all calls tell none: New also where the other place is one.
func TestP14_1NoPlace(t *testing.T) {
	for _, l := range [][][]int{nil, {nil}, some(), line(64), braid(63), make([][]int, 64)} {
		n := len(l)
		for _, k := range []int{-1, -2, n, n + 1, 64, 65, 1 << 32, api.MinInt, api.MaxInt} {
			if k >= 0 && k < n {
				continue
			}
			wantNoPlace(t, l, k)
			for _, other := range []int{0, n / 2, n - 1, k, -1, n} {
				wantNone(t, l, k, other)
				wantNone(t, l, other, k)
			}
		}
	}
}

// All right rows of few commits, and of many by chance, are held against what is said.
func TestP14_2AllSmallOnes(t *testing.T) {
	all := upTo(6)
	if len(all) != 1+1+2+8+56+616+9856 {
		t.Errorf("%d rows", len(all))
	}
	for _, l := range all {
		wantSaid(t, l)
	}
}

func TestP14_2AnyOne(t *testing.T) {
	two, none := 0, 0
	for _, l := range append(randoms(2, 120), line(64), braid(64), ladder(64), make([][]int, 64)) {
		wantSaid(t, l)
		for a := range l {
			for b := range a {
				switch n := len(dag.Bases(l, a, b)); {
				case n == 0:
					none++
				case n > 1:
					two++
				}
			}
		}
	}
	if two < 1000 || none < 1000 {
		t.Errorf("%d with more than one base, %d with none", two, none)
	}
}
