package merge_test

import (
	"testing"

	"cabochon/api"
	"cabochon/merge"
)

// unlike is outcomes of which no two are the same; most of them no merge comes to.
func unlike() []api.Outcome {
	l := []api.Outcome{
		{}, invalid, {Kind: api.Merged}, {Kind: api.Conflicts}, {Kind: -1}, {Kind: api.MaxInt},
		merged("{}"), merged("{a = 1}"), merged("{a = 2}"), merged("{b = 1}"), merged("{a = {}}"), merged("{a = <>}"), merged("{a = []}"), merged("[1]"), merged("[1, 1]"),
		merged("{}", left(0, nil, "1")), merged("{}", left(0, nil, "2")), merged("{}", left(1, nil, "1")), merged("{}", left(0, place(0), "1")), merged("{}", left(0, place(0, 0), "1")), merged("{}", left(0, nil, "1", "")), merged("{}", left(0, nil, "1", "", "")),
		merged("{}", left(0, nil, "1"), left(0, nil, "1")), merged("{}", left(0, nil, "1"), left(1, nil, "1")), merged("{}", left(1, nil, "1"), left(0, nil, "1")),
		{Kind: api.Merged, State: api.State{Doc: api.Doc{Num: 1}}}, {Kind: api.Merged, State: api.State{Doc: api.Doc{Str: "x"}}}, {Kind: api.Merged, State: api.State{Doc: api.Doc{Keys: []string{"a"}}}}, {Kind: api.Merged, State: api.State{Doc: api.Doc{Kids: make([]api.Doc, 1)}}},
		{Kind: api.Invalid, State: state("{}")}, {Kind: api.Invalid, Clashes: []api.Clash{clash()}}, {Kind: api.Invalid, State: state("{}"), Clashes: []api.Clash{clash()}},
		conflicts(clash()), conflicts(clash("a")), conflicts(clash("b")), conflicts(clash("")), conflicts(clash("a", "b")), conflicts(clash("ab")), conflicts(clash("a", "", "b")),
		conflicts(clash("a"), clash("b")), conflicts(clash("b"), clash("a")), conflicts(clash("a"), clash("a")), conflicts(clash("a"), clash("b"), clash("c")),
		conflicts(clashOut(0, nil)), conflicts(clashOut(0, nil, "a")), conflicts(clashOut(1, nil)), conflicts(clashOut(-1, nil)), conflicts(clashOut(0, place(0))), conflicts(clashOut(0, place(0, 0))), conflicts(clashOut(0, place(1))), conflicts(clashOut(0, place(0), "a")),
		conflicts(clash("a"), clashOut(0, nil, "a")), conflicts(clashOut(0, nil, "a"), clash("a")),
		conflicts(api.Clash{Edge: 1}), conflicts(api.Clash{Step: place(1)}), conflicts(api.Clash{Step: place(0)}), conflicts(api.Clash{Edge: 1, Step: place(1), Path: []string{"a"}}), conflicts(api.Clash{Out: true, Edge: 1, Step: place(1), Path: []string{"a"}}),
	}
	return l
}

func TestP12_4Same(t *testing.T) {
	for i, a := range unlike() {
		for j, b := range unlike() {
			for _, b := range []api.Outcome{b, roomy(b)} {
				if got := merge.Same(a, b); got != (i == j) {
					t.Errorf("%v: %s and %s", got, show(a), show(b))
				}
			}
		}
	}
}

// Rows that are none and empty ones are the same, in all depths.
func TestP12_4SameOfEmptyRows(t *testing.T) {
	for _, a := range unlike() {
		b := roomy(a)
		b.State.Doc.Keys, b.State.Doc.Kids = filled(b.State.Doc.Keys), filled(b.State.Doc.Kids)
		for i := range b.State.Doc.Kids {
			b.State.Doc.Kids[i].Keys, b.State.Doc.Kids[i].Kids = filled(b.State.Doc.Kids[i].Keys), filled(b.State.Doc.Kids[i].Kids)
		}
		b.State.Res, b.Clashes = filled(b.State.Res), filled(b.Clashes)
		for i := range b.State.Res {
			x := &b.State.Res[i]
			x.Step, x.At, x.Doc.Keys, x.Doc.Kids = filled(x.Step), filled(x.At), filled(x.Doc.Keys), filled(x.Doc.Kids)
		}
		for i := range b.Clashes {
			b.Clashes[i].Step, b.Clashes[i].Path = filled(b.Clashes[i].Step), filled(b.Clashes[i].Path)
		}
		if !merge.Same(a, b) || !merge.Same(b, a) {
			t.Errorf("not the same: %s", show(a))
		}
	}
}

// filled is l, not none.
func filled[T any](l []T) []T { return append([]T{}, l...) }

// What is merged is the same as it is merged again, and as no other.
func TestP12_4SameOfMerges(t *testing.T) {
	t.Parallel()
	var l []api.Outcome
	for _, x := range trios(81, 120) {
		l = append(l, x.three())
		if again := x.three(); !merge.Same(l[len(l)-1], again) || !merge.Same(again, again) {
			t.Errorf("not the same: %s", short(show(again)))
		}
	}
	for _, a := range l {
		for _, b := range l {
			if got := merge.Same(a, b); got != (show(a) == show(b)) {
				t.Errorf("%v: %s and %s", got, short(show(a)), short(show(b)))
			}
		}
	}
}
