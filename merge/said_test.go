package merge_test

import (
	"maps"
	"slices"
	"testing"

	"cabochon/api"
	"cabochon/apply"
	"cabochon/doc"
	"cabochon/graph"
	"cabochon/leaves"
	"cabochon/merge"
	"cabochon/trans"
)

// What the chapter says, line by line.

// spot is a part's place, and what base, left and right have there, as texts: "" is none.
type spot struct {
	at   api.Clash
	has  [3]string
	docs [3]api.Doc
}

// saidSpots is the parts of three states, those of documents ahead, each by rising places.
func saidSpots(s [3]api.State) []spot {
	docs, out := map[string]spot{}, map[string]spot{}
	note := func(all map[string]spot, i int, at api.Clash, d api.Doc) {
		x := all[show(at)]
		x.at, x.has[i], x.docs[i] = at, show(d), d
		all[show(at)] = x
	}
	for i := range s {
		for _, x := range leaves.Flat(s[i].Doc) {
			note(docs, i, clash(x.Path...), x.Doc)
		}
		for _, x := range s[i].Res {
			note(out, i, clashOut(x.Edge, x.Step, x.At...), x.Doc)
		}
	}
	first := slices.SortedFunc(maps.Values(docs), func(a, b spot) int { return leaves.Less(a.at.Path, b.at.Path) })
	return append(first, slices.SortedFunc(maps.Values(out), func(a, b spot) int {
		return apply.Less(api.Res{Edge: a.at.Edge, Step: a.at.Step, At: a.at.Path}, api.Res{Edge: b.at.Edge, Step: b.at.Step, At: b.at.Path})
	})...)
}

// saidSide is whose part is taken, or -1.
func saidSide(x spot) int {
	b, l, r := x.has[0], x.has[1], x.has[2]
	if l == r {
		return 1
	}
	if l == b {
		return 2
	}
	if r == b {
		return 1
	}
	return -1
}

// saidPick is what is said of Pick, and of Three, which takes nothing.
func saidPick(r api.Registry, k int, s [3]api.State, takes []int) api.Outcome {
	if !graph.Right(r) || k < 0 || k >= len(r.Schemas) {
		return invalid
	}
	for i := range s {
		if !doc.Right(s[i].Doc) || !apply.Right(s[i].Res) {
			return invalid
		}
	}
	var clashes []api.Clash
	var rows []api.Leaf
	var made api.State
	n := 0
	for _, x := range saidSpots(s) {
		side := saidSide(x)
		if side < 0 {
			if n < len(takes) && slices.Contains([]int{0, 1, 2}, takes[n]) {
				side = takes[n]
			}
			n++
		}
		switch {
		case side < 0:
			clashes = append(clashes, x.at)
		case x.has[side] == "":
		case x.at.Out:
			made.Res = apply.Put(made.Res, api.Res{Edge: x.at.Edge, Step: x.at.Step, At: x.at.Path, Doc: x.docs[side]})
		default:
			rows = append(rows, api.Leaf{Path: x.at.Path, Doc: x.docs[side]})
		}
	}
	if len(clashes) > 0 {
		return conflicts(clashes...)
	}
	var err api.Errno
	if made.Doc, err = leaves.Tree(rows); err != api.OK || !trans.Whole(r, k, made) {
		return invalid
	}
	return api.Outcome{Kind: api.Merged, State: made}
}

// saidAcross is what is said of Across.
func saidAcross(r api.Registry, to int, from [3]int, s [3]api.State) (api.Outcome, api.Errno) {
	for i := range s {
		var err api.Errno
		if s[i], err = trans.Go(r, from[i], to, s[i]); err != api.OK {
			return api.Outcome{}, err
		}
	}
	return saidPick(r, to, s, nil), api.OK
}

// wantSaid holds the calls to what is said of them, and tells what Three tells.
func wantSaid(t *testing.T, x trio, takes []int, from [3]int, to int) api.Outcome {
	t.Helper()
	plain := x.three()
	is := want(t, "Three", plain, saidPick(x.r, x.k, x.s, nil))
	is = want(t, "Pick", merge.Pick(x.r, x.k, x.s[0], x.s[1], x.s[2], takes), saidPick(x.r, x.k, x.s, takes)) && is
	across, err := merge.Across(x.r, to, from, x.s)
	wanted, wantedErr := saidAcross(x.r, to, from, x.s)
	is = want(t, "Across", across, wanted) && want(t, "Across", err, wantedErr) && is
	if !is {
		t.Errorf("takes %v, at %d, from %v to %d: %s of %s", takes, x.k, from, to, show(x.s), show(x.r))
	}
	return plain
}

func TestP12_1To3AnyStates(t *testing.T) {
	t.Parallel()
	r := chance(1, 2)
	came := map[int]int{}
	out := 0
	for _, x := range trios(3, 400) {
		for range 2 {
			takes := make([]int, r.IntN(6))
			for i := range takes {
				takes[i] = r.IntN(5) - 1
			}
			o := wantSaid(t, x, takes, [3]int{x.k, x.k, x.k}, r.IntN(len(x.r.Schemas)))
			came[o.Kind]++
			for _, c := range o.Clashes {
				if c.Out {
					out++
				}
			}
			for i := range x.s {
				if r.IntN(3) == 0 {
					x.s[i] = messed(r, x.r.Schemas[x.k].Type, x.s[i])
				}
			}
		}
	}
	for kind, n := range map[int]int{api.Merged: 200, api.Conflicts: 200, api.Invalid: 50} {
		if came[kind] < n {
			t.Errorf("kind %d came up %d times", kind, came[kind])
		}
	}
	if out < 90 {
		t.Errorf("%d clashes of what is left out", out)
	}
}

func TestP12_1To3AnyWrongOnes(t *testing.T) {
	t.Parallel()
	r := chance(5, 6)
	all := trios(7, 40)
	came := map[api.Errno]int{}
	for i, x := range all {
		other := all[(i+1)%len(all)]
		for _, k := range []int{-1, 0, 1, len(x.r.Schemas) - 1, len(x.r.Schemas), api.MinInt, api.MaxInt, x.k, r.IntN(6)} {
			for _, to := range []int{-1, 0, len(x.r.Schemas), api.MinInt, api.MaxInt, x.k} {
				y := trio{x.r, k, x.s}
				side := r.IntN(3)
				y.s[side] = any1(r, []api.State{y.s[side], other.s[side], messed(r, x.r.Schemas[x.k].Type, y.s[side])})
				from := [3]int{x.k, x.k, x.k}
				from[r.IntN(3)] = k
				wantSaid(t, y, []int{r.IntN(4)}, from, to)
				_, err := merge.Across(x.r, to, from, y.s)
				came[err]++
			}
		}
	}
	for _, err := range []api.Errno{api.OK, api.ErrType, api.ErrNone, api.ErrNoPath} {
		if came[err] < 20 {
			t.Errorf("%v came up %d times", err, came[err])
		}
	}
}

// All threes of a few documents.
func TestP12_1To3AllOfAFew(t *testing.T) {
	t.Parallel()
	for _, types := range []string{"{a: int (0 .. 9)}", "{a?: {x?: int (0 .. 9)}}", "{a?: dict (0 .. 1) of int (0 .. 9)}", "{a?: list (0 .. 1) of int (0 .. 9)}", "{}"} {
		r := one(types)
		var l []api.State
		for _, s := range []string{"{}", "{a = 1}", "{a = 2}", "{a = {}}", "{a = {x = 1}}", "{a = {x = 2}}", "{a = <>}", `{a = <"x": 1>}`, `{a = <"x": 2, "y": 1>}`, `{a = <"y": 1>}`, "{a = [1]}", "1", "<>", `<"a": 1>`} {
			l = append(l, state(s))
		}
		for _, base := range l {
			for _, left := range l {
				for _, right := range l {
					s := [3]api.State{base, left, right}
					if got, wanted := merge.Three(r, 0, base, left, right), saidPick(r, 0, s, nil); show(got) != show(wanted) {
						t.Errorf("%s: %s, not %s", show(s), show(got), show(wanted))
					}
				}
			}
		}
	}
}

// All threes of a few states with something left out.
func TestP12_1To3AllOfAFewLeftOut(t *testing.T) {
	t.Parallel()
	var l []api.State
	for _, d := range []string{"{a = 1}", "{a = 2}"} {
		for _, first := range []string{"", "true", "false", "7"} {
			for _, second := range []string{"", "true"} {
				s := state(d)
				if first != "" {
					s.Res = append(s.Res, left(0, place(0), first))
				}
				if second != "" {
					s.Res = append(s.Res, left(0, place(0), second, "k"))
				}
				l = append(l, s)
			}
		}
	}
	r := some()
	for _, base := range l {
		for _, left := range l {
			for _, right := range l {
				s := [3]api.State{base, left, right}
				for _, takes := range [][]int{nil, {2, 0}, {5, 1}} {
					if got, wanted := merge.Pick(r, 0, base, left, right, takes), saidPick(r, 0, s, takes); show(got) != show(wanted) {
						t.Errorf("%s: %s, not %s", show(s), show(got), show(wanted))
					}
				}
			}
		}
	}
}

// odd is keys that are easily taken for one another, or for some of them, one behind the other.
func odd() []string {
	return []string{"", "\x00", "\n", " ", " 1", "\"", ",", "/", "/0:", "/1:a", "0", "1", "1:a", ":", "\\", "a", "a/1:a", "aa", "\xef\xbf\xbd", "\xff", "\xff\xfe"}
}

// Many places are told apart, and in order, of documents.
func TestP12_1AnyPaths(t *testing.T) {
	of := func(x string) api.Doc {
		var kids []api.Doc
		for range odd() {
			kids = append(kids, val(x))
		}
		return api.Doc{Kind: api.DDict, Keys: odd(), Kids: kids}
	}
	within := func(x string) api.State {
		d := of(x)
		for i := range d.Kids {
			d.Kids[i] = of(x)
		}
		return api.State{Doc: d}
	}
	var nested, flat []api.Clash
	for _, a := range odd() {
		flat = append(flat, clash(a))
		for _, b := range odd() {
			nested = append(nested, clash(a, b))
		}
	}
	asked{one("{}"), 0, [3]api.State{state("<>"), {Doc: of("1")}, {Doc: of("2")}}, conflicts(flat...)}.three(t, "made")
	asked{one("{}"), 0, [3]api.State{state("<>"), within("1"), within("2")}, conflicts(nested...)}.three(t, "made, deeper")
	asked{one("{}"), 0, [3]api.State{within("1"), state("<>"), within("2")}, conflicts(nested...)}.three(t, "dropped")
	asked{one("{}"), 0, [3]api.State{within("1"), {Doc: of("1")}, state("<>")}, conflicts(flat...)}.three(t, "changed")
}

// And of what is left out: of places that are alike in all but the keys, in all but them, and of any ones.
func TestP12_1AnyPlaces(t *testing.T) {
	t.Parallel()
	r := chance(11, 12)
	all := oddPlaces()
	wantClashes(t, all)
	slices.SortStableFunc(all, func(a, b api.Res) int { return slices.Compare(a.At, b.At) })
	wantClashes(t, all)
	r.Shuffle(len(all), func(i, j int) { all[i], all[j] = all[j], all[i] })
	wantClashes(t, all)
	wantClashes(t, []api.Res{
		left(0, nil, "1", "1", "a", "a", "a", ""), left(0, nil, "1", "/1a/1a/1a/0"), left(0, nil, "1", "a/1:b"), left(0, nil, "1", "a", "b"), left(0, nil, "1", "a/b"),
		left(0, nil, "1", "1", "a", "a", ""), left(0, nil, "1", "/11a/11a/01"), left(1, nil, "1", "a8:bbbbbbbb"), left(11, nil, "1", "a", "bbbbbbbb"), left(1, nil, "1", "a17:bbbbbbb"), left(11, nil, "1", "a", "bbbbbbb"), left(1, place(2), "1", "a"), left(12, nil, "1", "a"), left(1, nil, "1", "2", "a"), left(1, nil, "1", " 2", "a"),
	})
}

// oddPlaces is all places of a few edges, steps and keys.
func oddPlaces() []api.Res {
	keys := [][]string{nil, {"", ""}, {"", "", ""}}
	for _, a := range odd() {
		keys = append(keys, []string{a})
		if a != "" {
			keys = append(keys, []string{a, "a"}, []string{"a", a, ""})
		}
	}
	var all []api.Res
	for _, edge := range []int{-1, 0, 1, 10, 11, api.MinInt, api.MaxInt} {
		for _, step := range [][]int{nil, {0}, {1}, {-1}, {2}, {10}, {0, 1}, {1, 0}, {1, 1}, {11}, {0, 0, 0}, {api.MinInt}, {api.MaxInt}} {
			for _, at := range keys {
				all = append(all, api.Res{Edge: edge, Step: step, At: at, Doc: val("1")})
			}
		}
	}
	return all
}

// wantClashes holds Three to a clash at each of these places, of which no two are the same.
func wantClashes(t *testing.T, all []api.Res) {
	t.Helper()
	for some := range slices.Chunk(all, api.MaxRes) {
		some = slices.SortedFunc(slices.Values(some), apply.Less)
		other := slices.Clone(some)
		var clashes []api.Clash
		for i, x := range some {
			other[i].Doc = val("2")
			clashes = append(clashes, clashOut(x.Edge, x.Step, x.At...))
		}
		asked{one("{}"), 0, [3]api.State{state("{}"), state("{}", some...), state("{}", other...)}, conflicts(clashes...)}.three(t, "made")
		asked{one("{}"), 0, [3]api.State{state("{}", some...), state("{}"), state("{}", other...)}, conflicts(clashes...)}.three(t, "dropped")
	}
}
