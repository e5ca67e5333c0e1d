package dag_test

import (
	"math/rand/v2"
	"slices"
)

// What comes by chance, the same at each run.

func chance(a, b uint64) *rand.Rand { return rand.New(rand.NewPCG(a, b)) }

func any1[T any](r *rand.Rand, l []T) T { return l[r.IntN(len(l))] }

// randomRow is a right one of so many commits, whose parents are mostly no more than so far ahead.
func randomRow(r *rand.Rand, n, far int) [][]int {
	l := make([][]int, n)
	for k := range l {
		for range r.IntN(4) {
			p := k - 1 - r.IntN(far)
			if r.IntN(10) == 0 && k > 0 {
				p = r.IntN(k)
			}
			if p >= 0 && len(l[k]) < 2 && !slices.Contains(l[k], p) {
				l[k] = append(l[k], p)
			}
		}
		slices.Sort(l[k])
	}
	return l
}

// randoms is so many right rows of some length.
func randoms(seed uint64, n int) [][][]int {
	r := chance(seed, 14)
	var all [][][]int
	for range n {
		all = append(all, randomRow(r, 1+r.IntN(64), 1+r.IntN(12)))
	}
	return all
}

// changed is l with something of it another.
func changed(r *rand.Rand, l [][]int) [][]int {
	made := make([][]int, len(l))
	for k := range l {
		made[k] = slices.Clone(l[k])
	}
	k := r.IntN(len(l))
	switch r.IntN(6) {
	case 0:
		made[k] = append(made[k], r.IntN(len(l)+2)-1)
	case 1:
		made[k] = append([]int{r.IntN(len(l)+2) - 1}, made[k]...)
	case 2:
		slices.Reverse(made[k])
	case 3:
		other := r.IntN(len(l))
		made[k], made[other] = made[other], made[k]
	case 4:
		if len(made[k]) > 0 {
			made[k][r.IntN(len(made[k]))] = any1(r, []int{-1, 0, k - 1, k, k + 1, -1 << 63, 1<<63 - 1})
		}
	case 5:
		made = append(made, made...)
	}
	return made
}

// upTo is all right rows of at most so many commits.
func upTo(n int) [][][]int {
	all := [][][]int{nil}
	last := all
	for k := range n {
		var longer [][][]int
		for _, l := range last {
			for _, parents := range choices(k) {
				longer = append(longer, append(slices.Clone(l), parents))
			}
		}
		all, last = append(all, longer...), longer
	}
	return all
}

// choices is all parents that the commit k may have.
func choices(k int) [][]int {
	all := [][]int{nil}
	for p := range k {
		all = append(all, []int{p})
		for q := p + 1; q < k; q++ {
			all = append(all, []int{p, q})
		}
	}
	return all
}

// lists is all lists of at most so many of from -1 to most.
func lists(n, most int) [][]int {
	all := [][]int{nil}
	last := all
	for range n {
		var longer [][]int
		for _, l := range last {
			for k := -1; k <= most; k++ {
				longer = append(longer, append(slices.Clone(l), k))
			}
		}
		all, last = append(all, longer...), longer
	}
	return all
}
