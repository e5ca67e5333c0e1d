package graph

import (
	"slices"

	"cabochon/api"
)

// Around is the joins of the schema k, rising, each as it leads away from k.
func Around(r api.Registry, k int) []api.Hop {
	if !Right(r) {
		return nil
	}
	return around(r, k)
}

// Component is the schemas that can be come to from k, itself among them, rising.
func Component(r api.Registry, k int) []int {
	if !Right(r) || !has(r, k) {
		return nil
	}
	var l []int
	over(r, k, func(k int, _ []api.Hop) { l = append(l, k) })
	slices.Sort(l)
	return l
}

// Path is the joins that lead from one schema to another one.
func Path(r api.Registry, from, to int) ([]api.Hop, api.Errno) {
	if !Right(r) {
		return nil, api.ErrArg
	}
	if !has(r, from) || !has(r, to) {
		return nil, api.ErrNone
	}
	l, is := way(r, from, to)
	if !is {
		return nil, api.ErrNoPath
	}
	return l, api.OK
}

// way is Path between schemas that r has, and whether there is one.
func way(r api.Registry, from, to int) ([]api.Hop, bool) {
	var found []api.Hop
	is := false
	over(r, from, func(k int, hops []api.Hop) {
		if k == to {
			found, is = slices.Clone(hops), true
		}
	})
	return found, is
}

// over hands each schema that can be come to from k to see, k itself ahead of all, with the way that leads there, which holds for that call alone. Joins make no rings: who never goes back by the join that they came by comes to each schema once.
func over(r api.Registry, k int, see func(k int, hops []api.Hop)) {
	var visit func(k, by int, hops []api.Hop)
	visit = func(k, by int, hops []api.Hop) {
		see(k, hops)
		for _, h := range around(r, k) {
			if h.Join != by {
				visit(end(r, h), h.Join, append(hops, h))
			}
		}
	}
	visit(k, -1, nil)
}

func around(r api.Registry, k int) []api.Hop {
	var l []api.Hop
	for i, j := range r.Joins {
		switch k {
		case j.From:
			l = append(l, api.Hop{Join: i})
		case j.To:
			l = append(l, api.Hop{Join: i, Back: true})
		}
	}
	return l
}

// end is the schema that h leads to.
func end(r api.Registry, h api.Hop) int {
	j := r.Joins[h.Join]
	if h.Back {
		return j.From
	}
	return j.To
}
