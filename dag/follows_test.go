package dag_test

import (
	"slices"
	"testing"

	"cabochon/api"
	"cabochon/dag"
)

// To be behind is an order: each is behind itself, no two are behind each other, and who is behind one that is behind a third one is behind that.
func TestP14_5Order(t *testing.T) {
	for _, l := range append(append(upTo(5), randoms(3, 25)...), some(), line(64), braid(64), ladder(64)) {
		for a := range l {
			if !dag.Is(l, a, a) {
				t.Errorf("%d is not behind itself in %s", a, show(l))
			}
			for b := range l {
				is := dag.Is(l, a, b)
				if is && a != b && dag.Is(l, b, a) {
					t.Errorf("%d and %d are behind each other in %s", a, b, show(l))
				}
				for c := range l {
					if is && dag.Is(l, b, c) && !dag.Is(l, a, c) {
						t.Errorf("%d, %d, %d in %s", a, b, c, show(l))
					}
				}
			}
		}
	}
}

// What is common to both is behind some base, and what is behind a base is common; no base is behind another one; and who is behind the other is the base.
func TestP14_5Bases(t *testing.T) {
	for _, l := range append(append(upTo(5), randoms(4, 25)...), some(), line(64), braid(64), ladder(64)) {
		for a := range l {
			for b := range l {
				wantBases(t, l, a, b)
			}
		}
	}
}

func wantBases(t *testing.T, l [][]int, a, b int) {
	t.Helper()
	common, bases, base := dag.Common(l, a, b), dag.Bases(l, a, b), dag.Base(l, a, b)
	for k := range l {
		by := 0
		for _, j := range bases {
			if dag.Is(l, k, j) {
				by++
			}
			if k == j && by > 1 || k != j && slices.Contains(bases, k) && dag.Is(l, k, j) {
				t.Errorf("%d, %d of %s: %d is behind %d", a, b, show(l), k, j)
			}
		}
		if slices.Contains(common, k) != (by > 0) {
			t.Errorf("%d, %d of %s: %d is behind %d bases", a, b, show(l), k, by)
		}
	}
	if !slices.Equal(bases, dag.Bases(l, b, a)) || !slices.Equal(common, dag.Common(l, b, a)) || base != dag.Base(l, b, a) {
		t.Errorf("%d, %d of %s: not the same the other way round", a, b, show(l))
	}
	if dag.Is(l, a, b) && (base != a || len(bases) != 1) {
		t.Errorf("%d is behind %d in %s: bases %s", a, b, show(l), showList(bases))
	}
	if (base == a) != dag.Is(l, a, b) || (base == -1) != (len(common) == 0) {
		t.Errorf("%d, %d of %s: base %d", a, b, show(l), base)
	}
}

// No call panics, each ends, and tells the same again, whatever it is given.
func TestW1AnyArguments(t *testing.T) {
	r := chance(5, 6)
	all := append(append(wrong(), randoms(5, 200)...), nil, [][]int{{api.MinInt, api.MaxInt}}, make([][]int, 1<<20), [][]int{make([]int, 1<<20)})
	numbers := []int{-1, 0, 1, 2, 5, 62, 63, 64, 65, 1 << 32, api.MinInt, api.MaxInt}
	for range 4000 {
		l, a, b := any1(r, all), any1(r, numbers), any1(r, numbers)
		if len(l) > 0 && len(l) < 100 && r.IntN(2) == 0 {
			l = changed(r, l)
		}
		for _, ask := range []func() []int{
			func() []int { return dag.Behind(l, a) },
			func() []int { return dag.Common(l, a, b) },
			func() []int { return dag.Bases(l, a, b) },
			func() []int { return dag.New(l, a, b) },
			func() []int { return dag.Heads(l) },
			func() []int { return []int{dag.Base(l, a, b), dag.Depth(l, a)} },
		} {
			if one, two := ask(), ask(); !slices.Equal(one, two) {
				t.Errorf("%d, %d of %s: %s, and then %s", a, b, show(l), showList(one), showList(two))
			}
		}
		if dag.Is(l, a, b) != dag.Is(l, a, b) || dag.Right(l) != saidRight(l) {
			t.Errorf("%d, %d of %s", a, b, show(l))
		}
	}
}

// None and an empty row of parents are the same, and what stands behind a row is no part of it.
func TestW5EmptyRowsAndSpareRoom(t *testing.T) {
	for _, l := range append(randoms(6, 60), some()) {
		other := roomy(l)
		for k := range other {
			if len(l[k]) == 0 && k%2 == 0 {
				other[k] = nil
			}
		}
		wantSaid(t, other)
	}
}
