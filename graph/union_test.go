package graph_test

import (
	"testing"

	"cabochon/api"
	"cabochon/graph"
)

func TestP10_4Union(t *testing.T) {
	ab, bc := "rename a to b;", "rename b to c;"
	for what, c := range map[string]struct{ a, b, made []string }{
		"none":            {nil, nil, nil},
		"with none":       {[]string{"s: {a: bool}"}, nil, []string{"s: {a: bool}"}},
		"of none":         {nil, []string{"s: {a: bool}", "t: {b: bool}", "0 > 1:" + ab}, []string{"s: {a: bool}", "t: {b: bool}", "0 > 1:" + ab}},
		"with itself":     {[]string{"s: {a: bool}", "t: {b: bool}", "0 > 1:" + ab}, []string{"s: {a: bool}", "t: {b: bool}", "0 > 1:" + ab}, []string{"s: {a: bool}", "t: {b: bool}", "0 > 1:" + ab}},
		"of unlike names": {[]string{"s: {a: bool}"}, []string{"t: {a: bool}"}, []string{"s: {a: bool}", "t: {a: bool}"}},
		"in a's order": {
			[]string{"t: {b: bool}", "s: {a: bool}", "1 > 0:" + ab},
			[]string{"u: {c: bool}", "s: {a: bool}", "r: {}", "t: {b: bool}", "3 > 0:" + bc, "1 > 3:" + ab},
			[]string{"t: {b: bool}", "s: {a: bool}", "u: {c: bool}", "r: {}", "1 > 0:" + ab, "0 > 2:" + bc},
		},
		"of joins alone": {
			[]string{"t: {b: bool}", "s: {a: bool}", "u: {c: bool}"},
			[]string{"s: {a: bool}", "t: {b: bool}", "u: {c: bool}", "1 > 2:" + bc, "0 > 1:" + ab},
			[]string{"t: {b: bool}", "s: {a: bool}", "u: {c: bool}", "0 > 2:" + bc, "1 > 0:" + ab},
		},
		"of a component over both": {
			[]string{"s: {a: bool}", "t: {b: bool}", "0 > 1:" + ab},
			[]string{"t: {b: bool}", "u: {c: bool}", "0 > 1:" + bc},
			[]string{"s: {a: bool}", "t: {b: bool}", "u: {c: bool}", "0 > 1:" + ab, "1 > 2:" + bc},
		},
	} {
		wantBoth(t, what, registry(c.made...), api.OK)(graph.Union(registry(c.a...), registry(c.b...)))
	}
}

func TestP10_4UnionThatMayNotBe(t *testing.T) {
	long := alike(12).Schemas
	for what, c := range map[string]struct {
		a, b api.Registry
		err  api.Errno
	}{
		"unlike types":              {registry("s: {a: bool}"), registry("s: {b: bool}"), api.ErrTwice},
		"unlike types, the last":    {registry("s: {a: bool}", "t: {a: bool}"), registry("u: {}", "t: {a?: bool}"), api.ErrTwice},
		"nearly alike":              {registry("s: {a: {e: int (0 .. 9)}}"), registry("s: {a: {e: int (0 .. 8)}}"), api.ErrTwice},
		"unlike, and too many":      {alike(12), api.Registry{Schemas: append(registry("t: {}").Schemas, api.Named{Name: name(11), Type: typ("{b: bool}")})}, api.ErrTwice},
		"unlike, and joined":        {alike(2, join(0, 1)), registry("s1: {b: bool}", "s0: {a: bool}", "1 > 0: rename a to b;"), api.ErrTwice},
		"one too many":              {alike(12), registry("s0: {a: bool}", "t: {}"), api.ErrFull},
		"together too many":         {api.Registry{Schemas: long[:7]}, api.Registry{Schemas: append(registry("t: {}").Schemas, long[1:]...)}, api.ErrFull},
		"too many, and joined":      {alike(12, join(0, 1)), api.Registry{Schemas: append(alike(2).Schemas, registry("t: {}").Schemas...), Joins: []api.Join{join(1, 0)}}, api.ErrFull},
		"joined the other way":      {alike(2, join(0, 1)), alike(2, join(1, 0)), api.ErrCycle},
		"joined by less":            {registry("s: {a: bool}", "t: {a: bool}", "0 > 1: rename a to b; rename b to a;"), registry("s: {a: bool}", "t: {a: bool}", "0 > 1:"), api.ErrCycle},
		"joined by what is told so": {registry("s: {a: bool}", "t: {a: bool, b: bool}", "0 > 1: add b: bool = true;"), registry("s: {a: bool}", "t: {a: bool, b: bool}", "0 > 1: add b: bool = false;"), api.ErrCycle},
		"turned round":              {registry("s: {a: bool}", "t: {b: bool}", "0 > 1: rename a to b;"), registry("s: {a: bool}", "t: {b: bool}", "1 > 0: rename b to a;"), api.ErrCycle},
		"joined by another one":     {alike(3, join(0, 1), join(1, 2)), alike(3, join(0, 2)), api.ErrCycle},
		"joined there and there":    {alike(4, join(0, 1), join(2, 3)), alike(4, join(1, 2), join(3, 0)), api.ErrCycle},
		"the last join":             {alike(5, join(0, 1), join(1, 2)), alike(5, join(3, 4), join(0, 1), join(2, 0)), api.ErrCycle},
	} {
		wantBoth(t, what, api.Registry{}, c.err)(graph.Union(c.a, c.b))
	}
}

func TestP10_4UnionAtTheLimit(t *testing.T) {
	all := alike(12, chain()...)
	some := chosen(all, []int{3, 2, 1, 0, 4, 5, 6}, []int{2, 0, 1, 5, 4, 3})
	rest := chosen(all, []int{11, 10, 9, 8, 7, 6, 5}, []int{10, 9, 8, 7, 6, 5})
	made := chosen(all, []int{3, 2, 1, 0, 4, 5, 6, 11, 10, 9, 8, 7}, []int{2, 0, 1, 5, 4, 3, 10, 9, 8, 7, 6})
	wantBoth(t, "as many as may be", made, api.OK)(graph.Union(some, rest))
	wantBoth(t, "of as many as may be", made, api.OK)(graph.Union(made, all))
	wantBoth(t, "with as many as may be", all, api.OK)(graph.Union(all, made))
}

// wantUnion holds Union to what the chapter says; it tells the error.
func wantUnion(t *testing.T, a, b api.Registry) api.Errno {
	t.Helper()
	made, err := saidUnion(a, b)
	wantBoth(t, show(a)+" and "+show(b), made, err)(graph.Union(a, b))
	return err
}

func TestP10_4AnyUnion(t *testing.T) {
	r := chance(7, 8)
	told := map[api.Errno]int{}
	more := 0
	for i, x := range randoms(3, 1500) {
		a, b := someOf(r, x), someOf(r, x)
		told[wantUnion(t, a, b)]++
		told[wantUnion(t, a, shuffled(r, x))]++
		told[wantUnion(t, x, b)]++
		told[wantUnion(t, changed(r, a), b)]++
		told[wantUnion(t, shuffled(r, x), changed(r, b))]++
		told[wantUnion(t, someOf(r, forest(r)), someOf(r, forest(r)))]++
		if i%2 == 0 { // of other schemas, some of which are of the same names
			other := randomRegistry(r, 4)
			for k := range other.Schemas {
				other.Schemas[k].Name = name(k + r.IntN(2)*10 + 8)
			}
			told[wantUnion(t, x, other)]++
			told[wantUnion(t, other, x)]++
		}
		if made, err := graph.Union(a, b); err == api.OK && len(made.Joins) > max(len(a.Joins), len(b.Joins)) {
			more++
		}
	}
	for _, err := range []api.Errno{api.OK, api.ErrArg, api.ErrTwice, api.ErrFull, api.ErrCycle} {
		if told[err] < 80 {
			t.Errorf("%v came up %d times", err, told[err])
		}
	}
	if more < 100 {
		t.Errorf("%d unions have joins of both", more)
	}
}
