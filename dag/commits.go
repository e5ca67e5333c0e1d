package dag

// commits tells of each place in a row whether its commit is one of some.
type commits []bool

// rising is their places.
func rising(some commits) []int {
	var l []int
	for k, is := range some {
		if is {
			l = append(l, k)
		}
	}
	return l
}

func behind(l [][]int, k int) commits {
	some := make(commits, len(l))
	over(l, k, func(k int) { some[k] = true })
	return some
}

// both is those of a that are of b too.
func both(a, b commits) commits {
	some := make(commits, len(a))
	for k := range some {
		some[k] = a[k] && b[k]
	}
	return some
}

// less is those of a that are not of b.
func less(a, b commits) commits {
	some := make(commits, len(a))
	for k := range some {
		some[k] = a[k] && !b[k]
	}
	return some
}

// tops is those of some that are behind no other one of them. All that is behind one of some must be of some too: then only parents need be looked at.
func tops(l [][]int, some commits) commits {
	parents := make(commits, len(l))
	for _, k := range rising(some) {
		for _, p := range l[k] {
			parents[p] = true
		}
	}
	return less(some, parents)
}
