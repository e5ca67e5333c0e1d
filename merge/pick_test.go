package merge_test

import (
	"slices"
	"testing"

	"cabochon/api"
	"cabochon/merge"
)

func TestP12_3Pick(t *testing.T) {
	r := one("{a?: int (0 .. 9), b?: int (0 .. 9), c?: int (0 .. 9), d?: int (0 .. 9)}")
	// a and d clash, b is left's, c is right's.
	s := states("{a = 1, b = 1, c = 1, d = 1}", "{a = 2, b = 2, c = 1}", "{a = 3, b = 1, c = 3, d = 3}")
	for _, x := range []struct {
		takes  []int
		wanted api.Outcome
	}{
		{nil, conflicts(clash("a"), clash("d"))},
		{[]int{}, conflicts(clash("a"), clash("d"))},
		{[]int{0}, conflicts(clash("d"))},
		{[]int{1}, conflicts(clash("d"))},
		{[]int{2}, conflicts(clash("d"))},
		{[]int{3}, conflicts(clash("a"), clash("d"))},
		{[]int{-1}, conflicts(clash("a"), clash("d"))},
		{[]int{-1, 0}, conflicts(clash("a"))},
		{[]int{3, 2}, conflicts(clash("a"))},
		{[]int{api.MaxInt, 1}, conflicts(clash("a"))},
		{[]int{api.MinInt, 1}, conflicts(clash("a"))},
		{[]int{1, 3}, conflicts(clash("d"))},
		{[]int{1, -1}, conflicts(clash("d"))},
		{[]int{4, 5}, conflicts(clash("a"), clash("d"))},
		{[]int{0, 0}, merged("{a = 1, b = 2, c = 3, d = 1}")},
		{[]int{0, 1}, merged("{a = 1, b = 2, c = 3}")},
		{[]int{0, 2}, merged("{a = 1, b = 2, c = 3, d = 3}")},
		{[]int{1, 0}, merged("{a = 2, b = 2, c = 3, d = 1}")},
		{[]int{1, 1}, merged("{a = 2, b = 2, c = 3}")},
		{[]int{1, 2}, merged("{a = 2, b = 2, c = 3, d = 3}")},
		{[]int{2, 0}, merged("{a = 3, b = 2, c = 3, d = 1}")},
		{[]int{2, 1}, merged("{a = 3, b = 2, c = 3}")},
		{[]int{2, 2}, merged("{a = 3, b = 2, c = 3, d = 3}")},
		{[]int{2, 1, 0, 0, 7}, merged("{a = 3, b = 2, c = 3}")},
		{[]int{2, 4, 1, 1}, conflicts(clash("d"))},
	} {
		what := "takes " + show(x.takes)
		want(t, what, merge.Pick(r, 0, s[0], s[1], s[2], x.takes), x.wanted)
		want(t, what+", with spare room", merge.Pick(roomy(r), 0, roomy(s[0]), roomy(s[1]), roomy(s[2]), roomy(x.takes)), x.wanted)
		plain := states("{a = 1, b = 1}", "{a = 2, b = 1}", "{a = 1, b = 3}")
		want(t, what+", no clash", merge.Pick(r, 0, plain[0], plain[1], plain[2], x.takes), merged("{a = 2, b = 3}"))
	}
}

// Clashes of what is left out are behind those of documents.
func TestP12_3PickOfWhatIsLeftOut(t *testing.T) {
	s := [3]api.State{state("{a = 1}"), state("{a = 2}", left(0, place(0), "true")), state("{a = 3}", left(0, place(0), "false"))}
	for _, x := range []struct {
		takes  []int
		wanted api.Outcome
	}{
		{nil, conflicts(clash("a"), clashOut(0, place(0)))},
		{[]int{0}, conflicts(clashOut(0, place(0)))},
		{[]int{4, 1}, conflicts(clash("a"))},
		{[]int{4, 0}, conflicts(clash("a"))},
		{[]int{0, 0}, invalid},
		{[]int{0, 1}, merged("{a = 1}", left(0, place(0), "true"))},
		{[]int{0, 2}, merged("{a = 1}", left(0, place(0), "false"))},
		{[]int{2, 1}, merged("{a = 3}", left(0, place(0), "true"))},
	} {
		want(t, "takes "+show(x.takes), merge.Pick(some(), 0, s[0], s[1], s[2], x.takes), x.wanted)
	}
}

// What is taken may have no home.
func TestP12_3PickOfWhatCannotBe(t *testing.T) {
	r := one("{d: dict (0 .. 2) of {a: int (0 .. 9)}}")
	s := states(`{d = <"x": {a = 1}>}`, "{d = <>}", `{d = <"x": {a = 2}>}`)
	for i, wanted := range []api.Outcome{invalid, merged("{d = <>}"), invalid} {
		want(t, "dropped, and changed", merge.Pick(r, 0, s[0], s[1], s[2], []int{i}), wanted)
	}
	s = states("{d = <>}", `{d = <"x": {a = 3}>}`, `{d = <"x": {a = 2}>}`)
	for i, wanted := range []api.Outcome{invalid, merged(`{d = <"x": {a = 3}>}`), merged(`{d = <"x": {a = 2}>}`)} {
		want(t, "made by both", merge.Pick(r, 0, s[0], s[1], s[2], []int{i}), wanted)
	}
	s = states("1", "{d = <>}", "2")
	for i, wanted := range []api.Outcome{invalid, merged("{d = <>}"), invalid} {
		want(t, "of no such type", merge.Pick(r, 0, s[0], s[1], s[2], []int{i}), wanted)
	}
}

// Three is Pick that takes nothing; and who takes all of one side has the clashes told by none.
func TestP12_3PickOfAll(t *testing.T) {
	t.Parallel()
	clashing := 0
	for _, x := range trios(61, 120) {
		plain := merge.Three(x.r, x.k, x.s[0], x.s[1], x.s[2])
		for _, takes := range [][]int{nil, {}, {3}, {-1, -1}, slices.Repeat([]int{7}, 300)} {
			want(t, "nothing taken", merge.Pick(x.r, x.k, x.s[0], x.s[1], x.s[2], takes), plain)
		}
		n := len(plain.Clashes)
		for side := range 3 {
			takes := slices.Repeat([]int{side}, n)
			if got := merge.Pick(x.r, x.k, x.s[0], x.s[1], x.s[2], takes); got.Kind == api.Conflicts {
				t.Errorf("all taken: %s", short(show(got)))
			}
			for i := range takes {
				takes[i] = 3
				want(t, "all taken but one", merge.Pick(x.r, x.k, x.s[0], x.s[1], x.s[2], takes), conflicts(plain.Clashes[i]))
				takes[i] = side
			}
		}
		clashing += n
	}
	if clashing < 100 {
		t.Errorf("%d clashes", clashing)
	}
}
