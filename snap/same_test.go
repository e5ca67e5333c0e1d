package snap_test

import (
	"testing"

	"cabochon/api"
	"cabochon/snap"
)

// unlike is snapshots of which no two are the same; most of them are not right.
func unlike() []api.Snap {
	l := []api.Snap{
		{}, snapshot(some()), snapshot(row()), snapshot(hosts()), snapshot(alike(2)), snapshot(alike(3)), snapshot(alike(2, join(0, 1))), snapshot(alike(2, join(1, 0))), snapshot(alike(2, join(0, 1), join(0, 1))),
		snapshot(alike(2, join(0, 1, lenses("rename a to b;")...))), snapshot(alike(2, join(0, 1, lenses("rename a to c;")...))), snapshot(registry("s: {a: bool}")), snapshot(registry("t: {a: bool}")), snapshot(registry("s: {b: bool}")),
		held(), hosted(), with(held(), 0, 1), with(held(), 3, 4), with(held(), 1, 2, named("g")),
		{Files: []api.File{{}}}, {Files: make([]api.File, 2)}, {Files: []api.File{{Name: "f"}}}, {Files: []api.File{{Name: "F"}}}, {Files: []api.File{{Schema: 1}}}, {Files: []api.File{{Schema: -1}}}, {Files: []api.File{{Name: "f", Schema: 1}}},
		{Files: []api.File{{Name: "f"}, {Name: "g"}}}, {Files: []api.File{{Name: "g"}, {Name: "f"}}}, {Files: []api.File{{Name: "f"}, {Name: "f"}}}, {Files: []api.File{{Name: "fg"}}},
	}
	for _, s := range []api.State{state("{}"), state("1"), state("2"), state("{a = 1}"), state("{a = 2}"), state("{b = 1}"), state("[1]"), state("[1, 1]"), state("<>"), state(`<"a": 1>`), state(`""`), state(`"x"`),
		state("1", left(0, nil, "1")), state("1", left(0, nil, "2")), state("1", left(1, nil, "1")), state("1", left(0, place(0), "1")), state("1", left(0, place(0, 0), "1")), state("1", left(0, nil, "1", "")), state("1", left(0, nil, "1", "", "")),
		state("1", left(0, nil, "1"), left(0, nil, "1")), state("1", left(0, nil, "1"), left(1, nil, "1")), state("1", left(1, nil, "1"), left(0, nil, "1")),
		{Doc: api.Doc{Num: 1}}, {Doc: api.Doc{Str: "x"}}, {Doc: api.Doc{Keys: []string{"a"}}}, {Doc: api.Doc{Kids: make([]api.Doc, 1)}}, {Res: make([]api.Res, 1)},
	} {
		l = append(l, api.Snap{Files: []api.File{{State: s}}}, with(held(), 4, 4, api.File{Name: "n", State: s}))
	}
	return l
}

func TestP13_1Same(t *testing.T) {
	for i, a := range unlike() {
		for j, b := range unlike() {
			for _, b := range []api.Snap{b, roomy(b)} {
				if got := snap.Same(a, b); got != (i == j) {
					t.Errorf("%v: %s and %s", got, short(show(a)), short(show(b)))
				}
			}
		}
	}
}

// filled is l, or, if it is none, an empty row.
func filled[T any](l []T) []T {
	if l == nil {
		return []T{}
	}
	return l
}

// Rows that are none and empty ones are the same, in all depths.
func TestP13_1SameOfEmptyRows(t *testing.T) {
	for _, a := range unlike() {
		b := roomy(a)
		b.Files, b.Reg.Schemas, b.Reg.Joins = filled(b.Files), filled(b.Reg.Schemas), filled(b.Reg.Joins)
		for i := range b.Files {
			s := &b.Files[i].State
			s.Doc.Keys, s.Doc.Kids, s.Res = filled(s.Doc.Keys), filled(s.Doc.Kids), filled(s.Res)
			for i := range s.Res {
				x := &s.Res[i]
				x.Step, x.At, x.Doc.Keys, x.Doc.Kids = filled(x.Step), filled(x.At), filled(x.Doc.Keys), filled(x.Doc.Kids)
			}
		}
		for i := range b.Reg.Joins {
			b.Reg.Joins[i].Lens = filled(b.Reg.Joins[i].Lens)
		}
		if !snap.Same(a, b) || !snap.Same(b, a) {
			t.Errorf("not the same: %s", short(show(a)))
		}
	}
}

func TestP13_1Copy(t *testing.T) {
	for _, s := range unlike() {
		want(t, "a copy", snap.Copy(s), s)
		want(t, "a copy of one with spare room", snap.Copy(roomy(s)), s)
	}
	for _, all := range []map[string]api.Snap{rights(), wrongs()} {
		for what, s := range all {
			want(t, what, snap.Copy(s), s)
		}
	}
}
