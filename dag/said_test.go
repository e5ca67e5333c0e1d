package dag_test

import (
	"slices"
	"testing"

	"cabochon/dag"
)

// What the chapter says, line by line.

func saidRight(l [][]int) bool {
	for k, parents := range l {
		for i, p := range parents {
			if p < 0 || p >= k {
				return false
			}
			for _, other := range parents[i+1:] {
				if other <= p {
					return false
				}
			}
		}
		if len(parents) > 2 {
			return false
		}
	}
	return len(l) <= 64
}

// saidBehind is k, and what comes to it, until nothing more comes.
func saidBehind(l [][]int, k int) []int {
	all := []int{k}
	for more := true; more; {
		more = false
		for _, j := range all {
			for _, p := range l[j] {
				if !slices.Contains(all, p) {
					all, more = append(all, p), true
				}
			}
		}
	}
	slices.Sort(all)
	return all
}

// allBehind is saidBehind of each commit.
func allBehind(l [][]int) [][]int {
	var all [][]int
	for k := range l {
		all = append(all, saidBehind(l, k))
	}
	return all
}

func saidCommon(behind [][]int, a, b int) []int {
	var l []int
	for _, k := range behind[a] {
		if slices.Contains(behind[b], k) {
			l = append(l, k)
		}
	}
	return l
}

func saidBases(behind [][]int, a, b int) []int {
	common := saidCommon(behind, a, b)
	var l []int
	for _, k := range common {
		if !slices.ContainsFunc(common, func(other int) bool { return other != k && slices.Contains(behind[other], k) }) {
			l = append(l, k)
		}
	}
	return l
}

func saidNew(behind [][]int, a, b int) []int {
	var l []int
	for _, k := range behind[b] {
		if !slices.Contains(behind[a], k) {
			l = append(l, k)
		}
	}
	return l
}

func saidHeads(l [][]int) []int {
	var all []int
	for k := range l {
		if !slices.ContainsFunc(l, func(parents []int) bool { return slices.Contains(parents, k) }) {
			all = append(all, k)
		}
	}
	return all
}

// saidDepths is that of each commit: parents stand ahead, so theirs are there.
func saidDepths(l [][]int) []int {
	var all []int
	for _, parents := range l {
		switch len(parents) {
		case 0:
			all = append(all, 1)
		case 1:
			all = append(all, all[parents[0]]+1)
		case 2:
			all = append(all, max(all[parents[0]], all[parents[1]])+1)
		}
	}
	return all
}

// wantSaid asks that all calls tell of the right row l what is said, of each two places.
func wantSaid(t *testing.T, l [][]int) {
	t.Helper()
	if !dag.Right(l) {
		t.Errorf("not right: %s", show(l))
		return
	}
	wantList(t, "Heads, "+show(l), dag.Heads(l), saidHeads(l))
	behind, depths := allBehind(l), saidDepths(l)
	for k := range l {
		if got := dag.Behind(l, k); !slices.Equal(got, behind[k]) {
			t.Errorf("Behind, %d of %s: %s", k, show(l), showList(got))
		}
		if got := dag.Depth(l, k); got != depths[k] {
			t.Errorf("Depth, %d of %s: %d", k, show(l), got)
		}
		for other := range l {
			wantSaidOf(t, l, behind, k, other)
		}
	}
}

func wantSaidOf(t *testing.T, l, behind [][]int, a, b int) {
	t.Helper()
	bases := saidBases(behind, a, b)
	last := -1
	if len(bases) > 0 {
		last = bases[len(bases)-1]
	}
	common, fresh, is := saidCommon(behind, a, b), saidNew(behind, a, b), slices.Contains(behind[b], a)
	if got := dag.Common(l, a, b); !slices.Equal(got, common) {
		t.Errorf("Common, %d and %d of %s: %s, not %s", a, b, show(l), showList(got), showList(common))
	}
	if got := dag.Bases(l, a, b); !slices.Equal(got, bases) {
		t.Errorf("Bases, %d and %d of %s: %s, not %s", a, b, show(l), showList(got), showList(bases))
	}
	if got := dag.Base(l, a, b); got != last {
		t.Errorf("Base, %d and %d of %s: %d, not %d", a, b, show(l), got, last)
	}
	if got := dag.New(l, a, b); !slices.Equal(got, fresh) {
		t.Errorf("New, %d and %d of %s: %s, not %s", a, b, show(l), showList(got), showList(fresh))
	}
	if got := dag.Is(l, a, b); got != is {
		t.Errorf("Is, %d and %d of %s: %v", a, b, show(l), got)
	}
}
