package graph_test

import (
	"slices"
	"testing"

	"cabochon/api"
	"cabochon/graph"
)

// full is a registry all of whose parts are there; it need not be right.
func full() api.Registry {
	return api.Registry{
		Schemas: []api.Named{
			{Name: "s", Type: typ(`{a: list (0 .. 1) of int (3 .. 9), b?: enum ("u", "v")}`)},
			{Name: "t", Type: typ(`dict (0 .. 1) of bytes (0 .. 1)`)},
		},
		Joins: []api.Join{
			{From: 1, To: 2, Lens: []api.Lens{{
				Kind: api.LIn, A: "a", B: "b", Type: typ(`enum ("u", "v")`), Doc: val(`[<"k": 3>, "s"]`),
				Swaps: [][2]int{{1, 2}, {3, 4}}, Subs: lenses("rename a to b; add c: bool = true;"),
			}, {Kind: api.LWrap, A: "a"}}},
			{From: 3, To: 4, Lens: lenses("head c;")},
		},
	}
}

// unlike is registries each of which is full but for one part.
func unlike() []api.Registry {
	changes := []func(r *api.Registry){
		func(r *api.Registry) {},
		func(r *api.Registry) { r.Schemas = nil },
		func(r *api.Registry) { r.Schemas = r.Schemas[:1] },
		func(r *api.Registry) { r.Schemas = append(r.Schemas, api.Named{}) },
		func(r *api.Registry) { slices.Reverse(r.Schemas) },
		func(r *api.Registry) { r.Schemas[0].Name = "" },
		func(r *api.Registry) { r.Schemas[1].Name = "s" },
		func(r *api.Registry) { r.Schemas[0].Type = api.Type{} },
		func(r *api.Registry) { r.Schemas[0].Type.Lo = 1 },
		func(r *api.Registry) { r.Schemas[0].Type.Fields[0].Type.Of[0].Hi = 8 },
		func(r *api.Registry) { r.Schemas[0].Type.Fields[1].Optional = false },
		func(r *api.Registry) { r.Schemas[0].Type.Fields[1].Type.Names[1] = "w" },
		func(r *api.Registry) { r.Schemas[1].Type.Kind = api.TList },
		func(r *api.Registry) { r.Joins = nil },
		func(r *api.Registry) { r.Joins = r.Joins[:1] },
		func(r *api.Registry) { r.Joins = append(r.Joins, api.Join{}) },
		func(r *api.Registry) { slices.Reverse(r.Joins) },
		func(r *api.Registry) { r.Joins[0].From = 0 },
		func(r *api.Registry) { r.Joins[0].To = 1 },
		func(r *api.Registry) { r.Joins[0].From, r.Joins[0].To = 2, 1 },
		func(r *api.Registry) { r.Joins[1].From = -1 },
		func(r *api.Registry) { r.Joins[1].To = 9 },
		func(r *api.Registry) { r.Joins[0].Lens = nil },
		func(r *api.Registry) { r.Joins[0].Lens = r.Joins[0].Lens[:1] },
		func(r *api.Registry) { slices.Reverse(r.Joins[0].Lens) },
		func(r *api.Registry) { r.Joins[0].Lens[0].Kind = api.LMap },
		func(r *api.Registry) { r.Joins[0].Lens[0].B = "a" },
		func(r *api.Registry) { r.Joins[0].Lens[0].Type.Names[0] = "" },
		func(r *api.Registry) { r.Joins[0].Lens[0].Doc.Kids[0].Kids[0].Num = 4 },
		func(r *api.Registry) { r.Joins[0].Lens[0].Swaps[1][1] = 5 },
		func(r *api.Registry) { r.Joins[0].Lens[0].Subs[1].Doc.Num = 0 },
		func(r *api.Registry) { r.Joins[1].Lens[0].A = "d" },
	}
	var l []api.Registry
	for _, change := range changes {
		r := full()
		change(&r)
		l = append(l, r)
	}
	return l
}

func TestP10_4Same(t *testing.T) {
	for i, a := range unlike() {
		for k, b := range unlike() {
			if graph.Same(a, b) != (i == k) {
				t.Errorf("%d, %d: %s, %s", i, k, show(a), show(b))
			}
		}
		if graph.Same(a, api.Registry{}) || graph.Same(api.Registry{}, a) {
			t.Errorf("%d: as none", i)
		}
	}
	if graph.Same(api.Registry{}, api.Registry{Joins: make([]api.Join, 1)}) || graph.Same(api.Registry{Schemas: make([]api.Named, 1)}, api.Registry{}) {
		t.Error("of one part that is zero")
	}
}

func TestP10_4SameOfEmptyRows(t *testing.T) {
	none := api.Registry{Schemas: make([]api.Named, 1), Joins: make([]api.Join, 1)}
	empty := api.Registry{
		Schemas: []api.Named{{Type: api.Type{Names: []string{}, Fields: []api.Field{}, Of: []api.Type{}}}},
		Joins:   []api.Join{{Lens: []api.Lens{}}},
	}
	for _, c := range [][2]api.Registry{{{}, {}}, {{}, {Schemas: []api.Named{}, Joins: []api.Join{}}}, {none, none}, {none, empty}} {
		if !graph.Same(c[0], c[1]) || !graph.Same(c[1], c[0]) {
			t.Errorf("%s, %s", show(c[0]), show(c[1]))
		}
	}
	a, b := registry("s: {}", "t: {}", "0 > 1:"), registry("s: {}", "t: {}", "0 > 1:")
	a.Joins[0].Lens, b.Joins[0].Lens = nil, []api.Lens{}
	a.Schemas[0].Type.Fields, b.Schemas[0].Type.Fields = nil, []api.Field{}
	if !graph.Right(a) || !graph.Right(b) || !graph.Same(a, b) {
		t.Error("of right ones")
	}
	wantBoth(t, "united", a, api.OK)(graph.Union(a, b))
	wantBoth(t, "united", a, api.OK)(graph.Union(b, a))
}

func TestP10_4Copy(t *testing.T) {
	all := append(unlike(), api.Registry{}, api.Registry{Schemas: make([]api.Named, 20), Joins: make([]api.Join, 20)}, alike(40))
	all = append(all, randoms(4, 100)...)
	for _, r := range wrong() {
		all = append(all, r)
	}
	for _, r := range all {
		want(t, show(r), graph.Copy(r), r)
		if !graph.Same(r, r) || !graph.Same(graph.Copy(r), r) {
			t.Errorf("not the same: %s", show(r))
		}
	}
}
