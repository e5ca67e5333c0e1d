package snap_test

import (
	"testing"

	"cabochon/api"
	"cabochon/snap"
)

func TestP13_1Kept(t *testing.T) {
	one, two, three := left(0, place(0), "1"), left(0, place(0, 1), "2", "k"), left(3, place(0), "3")
	for what, c := range map[string]struct{ l, places, wanted []api.Res }{
		"nothing":                    {},
		"of nothing":                 {nil, res(one, two), nil},
		"by nothing":                 {res(one, two), nil, nil},
		"all":                        {res(one, two, three), res(one, two, three), res(one, two, three)},
		"by more":                    {res(two), res(one, two, three), res(two)},
		"the first":                  {res(one, two, three), res(one), res(one)},
		"the middle one":             {res(one, two, three), res(two), res(two)},
		"the last":                   {res(one, two, three), res(three), res(three)},
		"all but the middle one":     {res(one, two, three), res(one, three), res(one, three)},
		"what is there is no matter": {res(one, two), res(left(0, place(0), `"x"`), api.Res{Step: place(0, 1), At: []string{"k"}}), res(one, two)},
		"places in another order":    {res(one, two, three), res(three, one, two), res(one, two, three)},
		"in the order of the first":  {res(three, one, two), res(one, two, three), res(three, one, two)},
		"places twice":               {res(one, two, three), res(two, one, two, one), res(one, two)},
		"twice of one place":         {res(one, left(0, place(0), "7"), one, three), res(one), res(one, left(0, place(0), "7"), one)},
		"another edge":               {res(one, two), res(left(1, place(0), "1"), left(-1, place(0), "1"), left(1, place(0, 1), "2", "k")), nil},
		"another step":               {res(one, two), res(left(0, place(1), "1"), left(0, nil, "1"), left(0, place(0, 0), "2", "k")), nil},
		"a step that begins so":      {res(one, two), res(left(0, place(0, 0), "1"), left(0, place(0), "2", "k")), nil},
		"another key":                {res(one, two), res(left(0, place(0), "1", ""), left(0, place(0, 1), "2"), left(0, place(0, 1), "2", "j")), nil},
		"a key that begins so":       {res(two), res(left(0, place(0, 1), "2", "k", "k"), left(0, place(0, 1), "2", "kk"), left(0, place(0, 1), "2", "")), nil},
		"keys by their ends":         {res(left(0, nil, "1", "a", "b"), left(0, nil, "1", "ab")), res(left(0, nil, "1", "ab", "")), nil},
		"documents that are none":    {[]api.Res{{Edge: 5}, {Edge: 6, Doc: api.Doc{Kind: -1}}}, []api.Res{{Edge: 6}}, []api.Res{{Edge: 6, Doc: api.Doc{Kind: -1}}}},
		"no step and no key":         {[]api.Res{{}, {Doc: val("1")}}, []api.Res{{Step: []int{}, At: []string{}}}, []api.Res{{}, {Doc: val("1")}}},
		"numbers at the ends":        {res(left(api.MinInt, place(api.MaxInt), "1"), left(api.MaxInt, place(api.MinInt), "2")), res(left(api.MaxInt, place(api.MinInt), "3"), left(api.MinInt, place(api.MinInt), "3")), res(left(api.MaxInt, place(api.MinInt), "2"))},
	} {
		want(t, what, snap.Kept(c.l, c.places), c.wanted)
		want(t, what+", with spare room", snap.Kept(roomy(c.l), roomy(c.places)), c.wanted)
	}
}

// Each of a few places by each row of them.
func TestP13_1KeptByAnyRows(t *testing.T) {
	all := res(left(0, nil, "1"), left(0, place(0), "2"), left(0, place(0), "3", "a"), left(0, place(0), "4", "b"), left(1, nil, "5"), left(1, nil, "6", "a"))
	rows := func(n int) []api.Res {
		var l []api.Res
		for i, x := range all {
			if n>>i&1 == 1 {
				l = append(l, x)
			}
		}
		return l
	}
	for n := range 64 {
		for m := range 64 {
			want(t, "some of them", snap.Kept(rows(n), rows(m)), rows(n&m))
		}
	}
}

func TestP13_1KeptOfMany(t *testing.T) {
	want(t, "far more than are left out", snap.Kept(many(1, 1<<16), many(1, 1<<15)), many(1, 1<<15))
	want(t, "by far more", snap.Kept(many(1, 1<<15), many(1, 1<<16)), many(1, 1<<15))
	if l := snap.Kept(many(1, 1<<16), many(2, 1<<16)); len(l) != 0 {
		t.Errorf("%d of another edge", len(l))
	}
}
