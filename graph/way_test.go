package graph_test

import (
	"slices"
	"testing"

	"cabochon/api"
	"cabochon/graph"
)

func TestP10_3Around(t *testing.T) {
	r := some()
	for k, wanted := range map[int][]api.Hop{
		0: hops(forth(0)), 1: hops(back(0), back(1)), 2: hops(forth(1)), 3: hops(forth(2)), 4: hops(back(2)), 5: nil,
		-1: nil, 6: nil, api.MinInt: nil, api.MaxInt: nil,
	} {
		want(t, "around "+name(k), graph.Around(r, k), wanted)
		want(t, "of none", graph.Around(api.Registry{}, k), hops())
	}
	star := alike(5, join(2, 1), join(0, 2), join(4, 2), join(2, 3))
	want(t, "of all joins", graph.Around(star, 2), hops(forth(0), back(1), back(2), forth(3)))
	want(t, "of one join", graph.Around(star, 4), hops(forth(2)))
}

func TestP10_3Component(t *testing.T) {
	r := some()
	for k, wanted := range map[int][]int{
		0: {0, 1, 2}, 1: {0, 1, 2}, 2: {0, 1, 2}, 3: {3, 4}, 4: {3, 4}, 5: {5},
		-1: nil, 6: nil, api.MinInt: nil, api.MaxInt: nil,
	} {
		want(t, "of "+name(k), graph.Component(r, k), wanted)
		want(t, "of none", graph.Component(api.Registry{}, k), []int{})
	}
}

func TestP10_3Path(t *testing.T) {
	r := some()
	for _, c := range []struct {
		from, to int
		l        []api.Hop
		err      api.Errno
	}{
		{0, 0, nil, api.OK},
		{5, 5, nil, api.OK},
		{0, 1, hops(forth(0)), api.OK},
		{1, 0, hops(back(0)), api.OK},
		{0, 2, hops(forth(0), back(1)), api.OK},
		{2, 0, hops(forth(1), back(0)), api.OK},
		{1, 2, hops(back(1)), api.OK},
		{3, 4, hops(forth(2)), api.OK},
		{4, 3, hops(back(2)), api.OK},
		{0, 3, nil, api.ErrNoPath},
		{4, 1, nil, api.ErrNoPath},
		{5, 0, nil, api.ErrNoPath},
		{-1, 0, nil, api.ErrNone},
		{0, -1, nil, api.ErrNone},
		{6, 0, nil, api.ErrNone},
		{0, 6, nil, api.ErrNone},
		{-1, -1, nil, api.ErrNone},
		{6, 6, nil, api.ErrNone},
		{api.MaxInt, api.MinInt, nil, api.ErrNone},
	} {
		wantBoth(t, name(c.from)+" to "+name(c.to), c.l, c.err)(graph.Path(r, c.from, c.to))
	}
	wantBoth(t, "of none", hops(), api.ErrNone)(graph.Path(api.Registry{}, 0, 0))
}

// wantWays holds all calls that look for ways to what the chapter says.
func wantWays(t *testing.T, r api.Registry) {
	t.Helper()
	what, all := show(r.Joins), parts(r)
	for from := -2; from < len(r.Schemas)+2; from++ {
		want(t, what+": around "+name(from), graph.Around(r, from), saidAround(r, from))
		var own []int
		if i := partOf(all, from); i >= 0 {
			own = all[i]
		}
		want(t, what+": component of "+name(from), graph.Component(r, from), own)
		for to := -2; to < len(r.Schemas)+2; to++ {
			wanted, err := saidPath(r, from, to)
			wantBoth(t, what+": "+name(from)+" to "+name(to), wanted, err)(graph.Path(r, from, to))
		}
	}
}

// All rows of joins between at most four schemas, either way, in any order; and at each of them all joins more.
func TestP10_3AllSmallOnes(t *testing.T) {
	often := 0
	var grow func(r api.Registry)
	grow = func(r api.Registry) {
		often++
		wantWays(t, r)
		for from := range r.Schemas {
			for to := range r.Schemas {
				more, err := saidJoin(r, name(from), name(to), nil)
				wantBoth(t, show(r.Joins)+" and "+name(from)+" to "+name(to), more, err)(graph.AddJoin(r, name(from), name(to), nil))
				whole := alike(len(r.Schemas), append(r.Joins[:len(r.Joins):len(r.Joins)], join(from, to))...)
				if graph.Right(whole) != (err == api.OK) {
					t.Errorf("%s: right, %v", show(whole.Joins), graph.Right(whole))
				}
				if err == api.OK {
					grow(more)
				}
			}
		}
	}
	for n := range 5 {
		grow(alike(n))
	}
	if often < 900 {
		t.Errorf("only %d", often)
	}
}

// As many schemas as may be, joined by chance.
func TestP10_3AnyGreatOne(t *testing.T) {
	r := chance(1, 2)
	for range 300 {
		wantWays(t, forest(r))
	}
}

func TestP10_3LongWays(t *testing.T) {
	var joins []api.Join
	var there, again []api.Hop
	for k := range 11 {
		turned := k%3 == 1
		if turned {
			joins = append(joins, join(k+1, k))
		} else {
			joins = append(joins, join(k, k+1))
		}
		there = append(there, api.Hop{Join: k, Back: turned})
		again = append(again, api.Hop{Join: k, Back: !turned})
	}
	slices.Reverse(again)
	r := alike(12, joins...)
	wantBoth(t, "there", there, api.OK)(graph.Path(r, 0, 11))
	wantBoth(t, "back", again, api.OK)(graph.Path(r, 11, 0))
	wantWays(t, r)
}
