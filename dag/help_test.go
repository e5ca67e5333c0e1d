package dag_test

import (
	"slices"
	"strconv"
	"strings"
	"testing"

	"cabochon/dag"
)

// row is what is written as in the chapter's example: of each commit its parents, or none.
func row(s string) [][]int {
	var l [][]int
	for _, one := range strings.Split(s, ";") {
		var parents []int
		for _, word := range strings.Fields(one) {
			if word == "none" {
				continue
			}
			k, err := strconv.Atoi(word)
			if err != nil {
				panic(err)
			}
			parents = append(parents, k)
		}
		l = append(l, parents)
	}
	return l
}

// show writes a row likewise.
func show(l [][]int) string {
	if len(l) > 100 {
		return strconv.Itoa(len(l)) + " commits"
	}
	var all []string
	for _, parents := range l {
		all = append(all, showList(parents))
	}
	return strings.Join(all, "; ")
}

func showList(l []int) string {
	if len(l) == 0 {
		return "none"
	}
	var all []string
	for _, k := range l {
		all = append(all, strconv.Itoa(k))
	}
	return strings.Join(all, " ")
}

// places is from 0 on, so many.
func places(n int) []int {
	var l []int
	for k := range n {
		l = append(l, k)
	}
	return l
}

// line is so many commits, each the parent of the next one.
func line(n int) [][]int {
	l := make([][]int, n)
	for k := 1; k < n; k++ {
		l[k] = []int{k - 1}
	}
	return l
}

// braid is so many commits, each of which has the two ahead of it as parents: more ways lead through it than can be gone.
func braid(n int) [][]int {
	l := line(n)
	for k := 2; k < n; k++ {
		l[k] = []int{k - 2, k - 1}
	}
	return l
}

// ladder is pairs of commits, both of which have both of the pair ahead as parents.
func ladder(n int) [][]int {
	l := make([][]int, n)
	for k := 2; k < n; k++ {
		pair := k - k%2
		l[k] = []int{pair - 2, pair - 1}
	}
	return l
}

// wantList asks that got is as wanted.
func wantList(t *testing.T, what string, got, wanted []int) {
	t.Helper()
	if !slices.Equal(got, wanted) {
		t.Errorf("%s: got %s, want %s", what, showList(got), showList(wanted))
	}
}

// wantNone asks that the calls of two places tell none, no, or -1, of a and b.
func wantNone(t *testing.T, l [][]int, a, b int) {
	t.Helper()
	common, bases, fresh := dag.Common(l, a, b), dag.Bases(l, a, b), dag.New(l, a, b)
	base, is := dag.Base(l, a, b), dag.Is(l, a, b)
	if len(common) > 0 || len(bases) > 0 || len(fresh) > 0 || base != -1 || is {
		t.Errorf("%d and %d of %s: common %s, bases %s, new %s, base %d, is %v", a, b, show(l), showList(common), showList(bases), showList(fresh), base, is)
	}
}

// wantNoPlace asks that the calls of one place tell none, or 0, of k.
func wantNoPlace(t *testing.T, l [][]int, k int) {
	t.Helper()
	if behind, depth := dag.Behind(l, k), dag.Depth(l, k); len(behind) > 0 || depth != 0 {
		t.Errorf("%d of %s: behind %s, depth %d", k, show(l), showList(behind), depth)
	}
}

// wantRefused asks that l is not right, and that all calls tell none of it, whichever places they are given.
func wantRefused(t *testing.T, l [][]int) {
	t.Helper()
	if dag.Right(l) {
		t.Errorf("right: %s", show(l))
	}
	if heads := dag.Heads(l); len(heads) > 0 {
		t.Errorf("heads %s of %s", showList(heads), show(l))
	}
	n := len(l)
	some := []int{-1, 0, 1, 2, 3, n / 2, n - 2, n - 1, n}
	for _, a := range some {
		wantNoPlace(t, l, a)
		for _, b := range some {
			wantNone(t, l, a, b)
		}
	}
}
