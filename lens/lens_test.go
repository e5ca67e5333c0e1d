package lens_test

import (
	"slices"
	"testing"

	"cabochon/api"
	"cabochon/lens"
)

// of is a step of that kind with such steps in it, whether they count there or not.
func of(kind int, subs ...api.Lens) api.Lens { return api.Lens{Kind: kind, Subs: subs} }

func TestP7_1SizeAndDepth(t *testing.T) {
	one := of(api.LWrap)
	for _, c := range []struct {
		l           []api.Lens
		size, depth int
	}{
		{nil, 0, 0},
		{[]api.Lens{}, 0, 0},
		{steps(one), 1, 1},
		{steps(one, one, one), 3, 1},
		{steps(in("r")), 1, 1},
		{steps(of(api.LIn, one)), 2, 2},
		{steps(of(api.LMap, one, one), one), 4, 2},
		{steps(one, of(api.LIn, one, of(api.LMap, one), one)), 6, 3},
		{steps(of(api.LIn, of(api.LIn, one)), one, of(api.LIn, one)), 6, 3},
		{steps(of(api.LRename, one, of(api.LAdd, one))), 4, 3},
		{steps(of(0, of(-1, of(11)))), 3, 3},
		{steps(nested(100, one)), 101, 101},
		{make([]api.Lens, 1000), 1000, 1},
	} {
		if size, depth := lens.Size(c.l), lens.Depth(c.l); size != c.size || depth != c.depth {
			t.Errorf("%s: %d steps, %d deep", short(show(c.l)), size, depth)
		}
	}
	for kind := -2; kind < 14; kind++ {
		if l := steps(of(kind, of(kind), of(kind))); lens.Size(l) != 3 || lens.Depth(l) != 2 {
			t.Errorf("of kind %d: %d steps, %d deep", kind, lens.Size(l), lens.Depth(l))
		}
	}
}

// full is a step all of whose parts are there.
func full() api.Lens {
	return api.Lens{
		Kind: api.LIn, A: "a", B: "b",
		Type:  typ(`{x: list (0 .. 1) of int (3 .. 9), y?: enum ("u", "v")}`),
		Doc:   val(`{x = [<"k": 3>, "s"], y = true}`),
		Swaps: [][2]int{{1, 2}, {3, 4}},
		Subs:  steps(rename("a", "b"), api.Lens{Kind: api.LMap, Swaps: [][2]int{{5, 6}}, Subs: steps(add("c", "bool", "true"))}),
	}
}

// unlike is steps each of which is full but for one part.
func unlike() []api.Lens {
	changes := []func(s *api.Lens){
		func(s *api.Lens) {},
		func(s *api.Lens) { s.Kind = api.LMap },
		func(s *api.Lens) { s.A = "" },
		func(s *api.Lens) { s.A = "b" },
		func(s *api.Lens) { s.B = "a" },
		func(s *api.Lens) { s.Type.Kind = 0 },
		func(s *api.Lens) { s.Type.Lo = 1 },
		func(s *api.Lens) { s.Type.Hi = 1 },
		func(s *api.Lens) { s.Type.Names = []string{""} },
		func(s *api.Lens) { s.Type.Fields = nil },
		func(s *api.Lens) { s.Type.Fields[0].Optional = true },
		func(s *api.Lens) { s.Type.Fields[0].Type.Of[0].Hi = 8 },
		func(s *api.Lens) { s.Type.Fields[1].Type.Names[1] = "w" },
		func(s *api.Lens) { s.Doc = api.Doc{} },
		func(s *api.Lens) { s.Doc.Kind = api.DDict },
		func(s *api.Lens) { s.Doc.Num = 1 },
		func(s *api.Lens) { s.Doc.Str = "s" },
		func(s *api.Lens) { s.Doc.Keys[0] = "a" },
		func(s *api.Lens) { s.Doc.Kids[0].Kids[0].Kids[0].Num = 4 },
		func(s *api.Lens) { s.Swaps = nil },
		func(s *api.Lens) { s.Swaps[1][1] = 5 },
		func(s *api.Lens) { s.Swaps[0][0] = 0 },
		func(s *api.Lens) { s.Swaps = s.Swaps[:1] },
		func(s *api.Lens) { s.Swaps = append(s.Swaps, [2]int{}) },
		func(s *api.Lens) { slices.Reverse(s.Swaps) },
		func(s *api.Lens) { s.Subs = nil },
		func(s *api.Lens) { s.Subs = s.Subs[:1] },
		func(s *api.Lens) { s.Subs = append(s.Subs, api.Lens{}) },
		func(s *api.Lens) { slices.Reverse(s.Subs) },
		func(s *api.Lens) { s.Subs[0].B = "c" },
		func(s *api.Lens) { s.Subs[1].Swaps[0][1] = 7 },
		func(s *api.Lens) { s.Subs[1].Subs[0].Doc.Num = 0 },
		func(s *api.Lens) { s.Subs[1].Subs[0].Type.Kind = api.TInt },
	}
	var l []api.Lens
	for _, change := range changes {
		s := full()
		change(&s)
		l = append(l, s)
	}
	return l
}

func TestP7_1Same(t *testing.T) {
	for i, a := range unlike() {
		for k, b := range unlike() {
			if lens.Same(steps(a), steps(b)) != (i == k) {
				t.Errorf("%d, %d: %s, %s", i, k, show(a), show(b))
			}
			if lens.Same(steps(a, b), steps(b, a)) != (i == k) || lens.Same(steps(nested(9, a)), steps(nested(9, b))) != (i == k) {
				t.Errorf("%d, %d: beside, or within", i, k)
			}
		}
		if lens.Same(nil, steps(a)) || lens.Same(steps(a), nil) || lens.Same(steps(a), steps(a, a)) || lens.Same(steps(a, a), steps(a)) {
			t.Errorf("%d: of unlike lengths", i)
		}
	}
	if lens.Same(nil, make([]api.Lens, 1)) || !lens.Same(nil, nil) || !lens.Same(nil, []api.Lens{}) || !lens.Same([]api.Lens{}, nil) {
		t.Error("of none")
	}
}

func TestP7_1SameOfEmptyRows(t *testing.T) {
	none := func(subs []api.Lens) []api.Lens {
		return steps(api.Lens{Kind: api.LIn, Subs: subs})
	}
	empty := func(subs []api.Lens) []api.Lens {
		return steps(api.Lens{
			Kind: api.LIn, Swaps: [][2]int{}, Subs: subs,
			Type: api.Type{Names: []string{}, Fields: []api.Field{}, Of: []api.Type{}},
			Doc:  api.Doc{Keys: []string{}, Kids: []api.Doc{}},
		})
	}
	for _, c := range [][2][]api.Lens{{none(nil), empty(nil)}, {none(nil), empty([]api.Lens{})}, {none(none(nil)), empty(empty([]api.Lens{}))}} {
		if !lens.Same(c[0], c[1]) || !lens.Same(c[1], c[0]) {
			t.Errorf("%s", show(c[0]))
		}
	}
}

func TestP7_1Copy(t *testing.T) {
	for _, l := range [][]api.Lens{nil, {}, steps(full()), unlike(), steps(nested(30, full()), full()), steps(api.Lens{Kind: -7, A: "\xff", B: "B"}), make([]api.Lens, 3)} {
		want(t, "Copy", lens.Copy(l), l)
	}
}

func TestP7_3Back(t *testing.T) {
	other := api.Lens{A: "a", B: "b", Subs: steps(rename("c", "d"), wrap("e")), Swaps: [][2]int{{2, 1}}, Type: typ("bool"), Doc: val("3")}
	as := func(kind int, a, b string) api.Lens {
		s := other
		s.Kind, s.A, s.B = kind, a, b
		return s
	}
	for _, c := range []struct{ l, back []api.Lens }{
		{nil, nil},
		{[]api.Lens{}, nil},
		{steps(rename("a", "b")), steps(rename("b", "a"))},
		{steps(rename("a", "a")), steps(rename("a", "a"))},
		{steps(add("a", "int (3 .. 9)", "3")), steps(remove("a", "int (3 .. 9)", "3"))},
		{steps(remove("a", "int (3 .. 9)", "3")), steps(add("a", "int (3 .. 9)", "3"))},
		{steps(hoist("a", "b")), steps(plunge("a", "b"))},
		{steps(plunge("a", "b")), steps(hoist("a", "b"))},
		{steps(wrap("a")), steps(head("a"))},
		{steps(head("a")), steps(wrap("a"))},
		{steps(convert("a", [2]int{1, 2}, [2]int{4, 3})), steps(convert("a", [2]int{1, 2}, [2]int{4, 3}))},
		{steps(in("a")), steps(in("a"))},
		{steps(in("a", wrap("b"), rename("b", "c"))), steps(in("a", rename("c", "b"), head("b")))},
		{steps(each("a", wrap("b"), in("c", hoist("d", "e"), head("f")), rename("b", "c"))), steps(each("a", rename("c", "b"), in("c", wrap("f"), plunge("d", "e")), head("b")))},
		{steps(wrap("a"), head("b"), rename("c", "d")), steps(rename("d", "c"), wrap("b"), head("a"))},
		{steps(api.Lens{}, api.Lens{Kind: 11, A: "a", B: "b"}), steps(api.Lens{Kind: 11, A: "a", B: "b"}, api.Lens{})},

		{steps(as(api.LRename, "a", "b")), steps(as(api.LRename, "b", "a"))},
		{steps(as(api.LAdd, "a", "b")), steps(as(api.LRemove, "a", "b"))},
		{steps(as(api.LRemove, "a", "b")), steps(as(api.LAdd, "a", "b"))},
		{steps(as(api.LHoist, "a", "b")), steps(as(api.LPlunge, "a", "b"))},
		{steps(as(api.LPlunge, "a", "b")), steps(as(api.LHoist, "a", "b"))},
		{steps(as(api.LWrap, "a", "b")), steps(as(api.LHead, "a", "b"))},
		{steps(as(api.LHead, "a", "b")), steps(as(api.LWrap, "a", "b"))},
		{steps(as(api.LConvert, "a", "b")), steps(as(api.LConvert, "a", "b"))},
		{steps(as(0, "a", "b")), steps(as(0, "a", "b"))},
		{steps(as(-1, "a", "b")), steps(as(-1, "a", "b"))},
		{steps(as(11, "a", "b")), steps(as(11, "a", "b"))},
	} {
		want(t, show(c.l), lens.Back(c.l), c.back)
		for _, kind := range []int{api.LIn, api.LMap} {
			within := func(l []api.Lens) []api.Lens { return steps(of(kind, l...), of(kind)) }
			turned := steps(of(kind), of(kind, c.back...))
			want(t, "within "+show(c.l), lens.Back(within(c.l)), turned)
		}
	}
	for _, kind := range []int{api.LIn, api.LMap} {
		s := as(kind, "a", "b")
		s.Subs = steps(head("e"), rename("d", "c"))
		want(t, "all parts", lens.Back(steps(as(kind, "a", "b"))), steps(s))
	}
}

func TestP7_3Swap(t *testing.T) {
	l := [][2]int{{1, 2}, {-3, 4}, {5, 5}, {2, 7}, {1, 8}, {api.MinInt, api.MaxInt}, {0, 9}}
	for n, m := range map[int]int{1: 2, 2: 1, -3: 4, 4: -3, 5: 5, 7: 2, 8: 1, api.MinInt: api.MaxInt, api.MaxInt: api.MinInt, 0: 9, 9: 0, 3: 3, 6: 6, -1: -1, 10: 10, api.MaxInt - 1: api.MaxInt - 1} {
		if got := lens.Swap(n, l); got != m {
			t.Errorf("%d: %d, not %d", n, got, m)
		}
		if lens.Swap(n, nil) != n || lens.Swap(n, [][2]int{}) != n {
			t.Errorf("%d by none: %d", n, lens.Swap(n, nil))
		}
	}
	many := pairs(100)
	for i := range 200 {
		if got := lens.Swap(i, many); got != i^1 {
			t.Errorf("%d: %d", i, got)
		}
	}
}

func TestP7_3Lossless(t *testing.T) {
	for kind := -2; kind < 14; kind++ {
		less := kind != api.LAdd && kind != api.LRemove
		s := of(kind)
		for what, l := range map[string][]api.Lens{
			"alone": steps(s), "behind": steps(wrap("a"), rename("a", "b"), s), "ahead": steps(s, wrap("a")),
			"within": steps(in("r", wrap("a"), s, wrap("a"))), "within each": steps(each("d", in("r", wrap("a")), in("r", s))),
			"deep within": steps(wrap("a"), nested(20, s)), "where none counts": steps(of(api.LRename, of(0, s))),
		} {
			if lens.Lossless(l) != less {
				t.Errorf("of kind %d, %s: %v", kind, what, !less)
			}
		}
		if lens.Lossless(steps(of(kind, wrap("a"), of(api.LAdd)))) || lens.Lossless(steps(of(kind, of(api.LRemove), wrap("a")))) {
			t.Errorf("of kind %d, with a loss within", kind)
		}
	}
	if !lens.Lossless(nil) || !lens.Lossless([]api.Lens{}) {
		t.Error("of none")
	}
}
