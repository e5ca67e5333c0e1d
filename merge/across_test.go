package merge_test

import (
	"testing"

	"cabochon/api"
	"cabochon/merge"
	"cabochon/trans"
)

func TestP12_2Across(t *testing.T) {
	no, yes := left(0, place(0), "false"), left(0, place(0), "true")
	one, two, three := state("{a = 1}", no), state("{a = 2, b = false}"), state("{b = true, c = 1}")
	for what, x := range map[string]struct {
		to     int
		from   [3]int
		s      [3]api.State
		wanted api.Outcome
	}{
		"at the first":         {0, [3]int{0, 1, 2}, [3]api.State{one, two, three}, merged("{a = 2}", yes)},
		"at the second":        {1, [3]int{0, 1, 2}, [3]api.State{one, two, three}, merged("{a = 2, b = true}")},
		"at the third":         {2, [3]int{0, 1, 2}, [3]api.State{one, two, three}, merged("{b = true, c = 2}")},
		"sides swapped":        {2, [3]int{0, 2, 1}, [3]api.State{one, three, two}, merged("{b = true, c = 2}")},
		"another base":         {1, [3]int{2, 0, 1}, [3]api.State{three, one, two}, merged("{a = 2, b = false}")},
		"all of one schema":    {0, [3]int{0, 0, 0}, [3]api.State{one, state("{a = 1}", yes), state("{a = 3}", no)}, merged("{a = 3}", yes)},
		"all of another one":   {0, [3]int{1, 1, 1}, [3]api.State{two, two, state("{a = 3, b = true}")}, merged("{a = 3}", yes)},
		"a clash":              {0, [3]int{1, 2, 1}, [3]api.State{state("{a = 1, b = true}"), state("{b = false, c = 2}"), state("{a = 3, b = true}")}, conflicts(clash("a"))},
		"a clash elsewhere":    {2, [3]int{1, 2, 1}, [3]api.State{state("{a = 1, b = true}"), state("{b = false, c = 2}"), state("{a = 3, b = true}")}, conflicts(clash("c"))},
		"not whole":            {0, [3]int{0, 0, 0}, [3]api.State{state("{a = 1}"), state("{a = 1}"), state("{a = 1}")}, invalid},
		"not whole, but there": {1, [3]int{0, 0, 0}, [3]api.State{state("{a = 1}"), state("{a = 1}"), state("{a = 2}", yes)}, merged("{a = 2, b = true}")},
		"alone":                {5, [3]int{5, 5, 5}, [3]api.State{state("{a = 1}"), state("{a = 1}"), state("{a = 2}")}, merged("{a = 2}")},
	} {
		wantBoth(t, what, x.wanted, api.OK)(merge.Across(some(), x.to, x.from, x.s))
		wantBoth(t, what+", with spare room", x.wanted, api.OK)(merge.Across(roomy(some()), x.to, x.from, roomy(x.s)))
	}
}

// failing is who does not go to the schema 1 of some: from where, and why.
func failing() map[api.Errno]struct {
	from int
	s    api.State
} {
	return map[api.Errno]struct {
		from int
		s    api.State
	}{
		api.ErrNone:   {6, state("{a = 1}")},
		api.ErrNoPath: {5, state("{a = 1}")},
		api.ErrArg:    {0, state("{a = 1}", many(1, 257, "1")...)},
		api.ErrType:   {2, state("{a = 1}")},
		api.ErrRange:  {0, state("{a = 1}", left(0, place(0), "1"))},
	}
}

// The first error of base's, left's and right's is told, and a zero outcome.
func TestP12_2Errors(t *testing.T) {
	good := state("{a = 1, b = true}")
	for first, x := range failing() {
		for side := range 3 {
			from, s := [3]int{1, 1, 1}, [3]api.State{good, good, good}
			from[side], s[side] = x.from, x.s
			wantBoth(t, "one of them", api.Outcome{}, first)(merge.Across(some(), 1, from, s))
			for _, y := range failing() {
				for behind := side + 1; behind < 3; behind++ {
					from, s := from, s
					from[behind], s[behind] = y.from, y.s
					wantBoth(t, "two of them", api.Outcome{}, first)(merge.Across(some(), 1, from, s))
				}
			}
		}
	}
	wantBoth(t, "none of them", api.Outcome{Kind: api.Merged, State: good}, api.OK)(merge.Across(some(), 1, [3]int{1, 1, 1}, [3]api.State{good, good, good}))
}

func TestP12_2NoSchemaOrRegistry(t *testing.T) {
	s := states("{a = true}", "{a = true}", "{a = true}")
	for _, k := range []int{-1, 12, api.MinInt, api.MaxInt} {
		wantBoth(t, "to none", api.Outcome{}, api.ErrNone)(merge.Across(alike(12), k, [3]int{}, s))
		wantBoth(t, "from none", api.Outcome{}, api.ErrNone)(merge.Across(alike(12), 0, [3]int{0, 0, k}, s))
		wantBoth(t, "from and to none", api.Outcome{}, api.ErrNone)(merge.Across(alike(12), k, [3]int{k, k, k}, s))
	}
	for i, r := range wrong() {
		for _, k := range []int{-1, 0, 1, 12} {
			wantBoth(t, "registry "+name(i), api.Outcome{}, api.ErrArg)(merge.Across(r, k, [3]int{k, 0, 1}, s))
		}
	}
	wantBoth(t, "an empty registry", api.Outcome{}, api.ErrNone)(merge.Across(api.Registry{}, 0, [3]int{}, s))
}

// What is of the schema itself goes nowhere, but is looked at.
func TestP12_2AtTheSchemaItself(t *testing.T) {
	r := alike(2)
	for i, s := range []api.State{state("{}"), state("5"), {}, state("{a = true}", left(0, nil, "1"), left(0, nil, "1"))} {
		err := []api.Errno{api.ErrType, api.ErrType, api.ErrType, api.ErrArg}[i]
		for side := range 3 {
			all := states("{a = true}", "{a = true}", "{a = true}")
			all[side] = s
			wantBoth(t, "there", api.Outcome{}, err)(merge.Across(r, 1, [3]int{1, 1, 1}, all))
		}
	}
	l := left(0, nil, "1")
	wantBoth(t, "in vain", invalid, api.OK)(merge.Across(r, 1, [3]int{1, 1, 1}, [3]api.State{state("{a = true}", l), state("{a = true}", l), state("{a = true}", l)}))
}

// Across is Three of what Go tells.
func TestP12_2AcrossIsThree(t *testing.T) {
	t.Parallel()
	for _, x := range trios(71, 100) {
		for to := range x.r.Schemas {
			var there [3]api.State
			var err api.Errno
			for i, s := range x.s {
				if there[i], err = trans.Go(x.r, x.k, to, s); err != api.OK {
					break
				}
			}
			var wanted api.Outcome
			if err == api.OK {
				wanted = merge.Three(x.r, to, there[0], there[1], there[2])
			}
			wantBoth(t, "to "+name(to), wanted, err)(merge.Across(x.r, to, [3]int{x.k, x.k, x.k}, x.s))
		}
	}
}
