package schema_test

import (
	"slices"
	"testing"

	"cabochon/api"
	"cabochon/schema"
)

func TestP4_1SizeAndDepth(t *testing.T) {
	for _, c := range []struct {
		what        string
		t           api.Type
		size, depth int
	}{
		{"a zero one", api.Type{}, 1, 1},
		{"a number", number(3, 9), 1, 1},
		{"an enum", enum("a", "b", "c"), 1, 1},
		{"an empty record", rec(), 1, 1},
		{"empty rows", api.Type{Kind: api.TRec, Fields: []api.Field{}, Of: []api.Type{}}, 1, 1},
		{"a record", rec(field("a", yes()), optional("b", yes())), 3, 2},
		{"a list", list(5, 9, yes()), 2, 2},
		{"a dict", dict(5, 9, list(1, 1, yes())), 3, 3},
		{"the deepest first", rec(field("a", list(0, 1, rec(field("a", yes())))), field("b", yes())), 5, 4},
		{"the deepest last", rec(field("a", yes()), field("b", dict(0, 1, rec(field("a", yes()), field("b", yes()))))), 6, 4},
		{"a number of something", api.Type{Kind: api.TInt, Of: []api.Type{yes(), list(0, 1, yes())}}, 4, 3},
		{"a bool with fields", api.Type{Kind: api.TBool, Fields: []api.Field{field("", yes()), field("", yes())}}, 3, 2},
		{"both, the one deeper", api.Type{Kind: 9, Fields: []api.Field{field("a", chain(3))}, Of: []api.Type{yes()}}, 5, 4},
		{"both, the other deeper", api.Type{Kind: 9, Fields: []api.Field{field("a", yes())}, Of: []api.Type{chain(2), chain(3)}}, 7, 4},
		{"as deep as may be", chain(api.MaxDepth), 12, 12},
		{"all parts", whole(), 128, 4},
		{"a chain", chain(1 << 16), 1 << 16, 1 << 16},
		{"a wide one", wide(1<<16, rec(field("a", yes()))), 1<<17 + 1, 3},
		{"many", api.Type{Of: slices.Repeat([]api.Type{yes()}, 1<<16)}, 1<<16 + 1, 2},
	} {
		if got := schema.Size(c.t); got != c.size {
			t.Errorf("%s: Size is %d, not %d", c.what, got, c.size)
		}
		if got := schema.Depth(c.t); got != c.depth {
			t.Errorf("%s: Depth is %d, not %d", c.what, got, c.depth)
		}
	}
	for _, x := range randoms(300) {
		if got := schema.Size(x); got != parts(x) {
			t.Errorf("%s: Size is %d", show(x), got)
		}
	}
}

func TestP4_1Right(t *testing.T) {
	for what, x := range right() {
		if !schema.Right(x) {
			t.Errorf("not right: %s", what)
		}
	}
	for what, x := range wrong() {
		if schema.Right(x) {
			t.Errorf("right: %s", what)
		}
	}
	for _, x := range randoms(300) {
		if !schema.Right(x) {
			t.Errorf("not right: %s", show(x))
		}
	}
}

// What is wrong is so wherever it stands.
func TestP4_1RightOfWrongOnesWithin(t *testing.T) {
	for what, x := range wrong() {
		for _, home := range []api.Type{rec(field("a", x)), rec(field("a", yes()), optional("b", x)), dict(0, 1, x), list(0, 1, x), list(0, 1, rec(field("a", dict(0, 1, x))))} {
			if schema.Right(home) {
				t.Errorf("right, with one below that is not: %s", what)
			}
		}
	}
}

func TestP4_1Same(t *testing.T) {
	full := func() api.Type {
		return api.Type{Kind: 1, Lo: 2, Hi: 3, Names: []string{"a", "b"}, Fields: []api.Field{field("a", yes()), optional("b", list(1, 2, number(3, 4)))}, Of: []api.Type{yes(), rec(field("x", yes()))}}
	}
	if !schema.Same(full(), full()) {
		t.Error("what is alike is not the same")
	}
	for what, change := range map[string]func(x *api.Type){
		"the kind":             func(x *api.Type) { x.Kind = 2 },
		"the lowest":           func(x *api.Type) { x.Lo = 1 },
		"the highest":          func(x *api.Type) { x.Hi = 4 },
		"a name":               func(x *api.Type) { x.Names[1] = "c" },
		"the names' order":     func(x *api.Type) { x.Names[0], x.Names[1] = "b", "a" },
		"a name more":          func(x *api.Type) { x.Names = append(x.Names, "c") },
		"a name less":          func(x *api.Type) { x.Names = x.Names[:1] },
		"no names":             func(x *api.Type) { x.Names = nil },
		"a field's name":       func(x *api.Type) { x.Fields[1].Name = "c" },
		"a field optional":     func(x *api.Type) { x.Fields[0].Optional = true },
		"a field not optional": func(x *api.Type) { x.Fields[1].Optional = false },
		"a field's type":       func(x *api.Type) { x.Fields[0].Type = str(0, 1) },
		"a field's type below": func(x *api.Type) { x.Fields[1].Type.Of[0].Hi = 5 },
		"the fields' order":    func(x *api.Type) { slices.Reverse(x.Fields) },
		"a field more":         func(x *api.Type) { x.Fields = append(x.Fields, field("c", yes())) },
		"a field less":         func(x *api.Type) { x.Fields = x.Fields[:1] },
		"no fields":            func(x *api.Type) { x.Fields = nil },
		"one of what it is of": func(x *api.Type) { x.Of[0].Lo = 1 },
		"one of that, below":   func(x *api.Type) { x.Of[1].Fields[0].Name = "y" },
		"one more":             func(x *api.Type) { x.Of = append(x.Of, yes()) },
		"one less":             func(x *api.Type) { x.Of = x.Of[:1] },
		"none":                 func(x *api.Type) { x.Of = nil },
	} {
		other := full()
		change(&other)
		if schema.Same(full(), other) || schema.Same(other, full()) {
			t.Errorf("the same, but for %s", what)
		}
	}
	rows := api.Type{Kind: api.TRec, Names: []string{}, Fields: []api.Field{}, Of: []api.Type{}}
	if !schema.Same(list(0, 1, rec(field("a", rec()))), list(0, 1, rec(field("a", rows)))) {
		t.Error("rows that are none and empty ones are not the same")
	}
	if !schema.Same(chain(1<<16), chain(1<<16)) || schema.Same(chain(1<<16), chain(1<<16-1)) {
		t.Error("chains")
	}
	l := randoms(150)
	for _, a := range l {
		for _, b := range l {
			if schema.Same(a, b) != (show(a) == show(b)) {
				t.Errorf("Same(%s, %s) is %v", show(a), show(b), schema.Same(a, b))
			}
		}
	}
}

func TestP4_1Copy(t *testing.T) {
	for _, types := range []map[string]api.Type{right(), wrong()} {
		for what, x := range types {
			if got := schema.Copy(x); show(got) != show(x) {
				t.Errorf("%s: copied it is %s", what, short(show(got)))
			}
		}
	}
	for _, x := range randoms(300) {
		wantType(t, "a copy", schema.Copy(x), x)
	}
}

func TestP4_1Scalar(t *testing.T) {
	for kind := -2; kind < 12; kind++ {
		want := slices.Contains([]int{api.TInt, api.TBool, api.TBytes, api.TEnum}, kind)
		for _, x := range []api.Type{{Kind: kind}, {Kind: kind, Lo: 1}, {Kind: kind, Fields: []api.Field{{}}, Names: names(2), Of: []api.Type{{}, {}}}} {
			if schema.Scalar(x) != want {
				t.Errorf("of kind %d: Scalar is not %v", kind, want)
			}
		}
	}
	for _, kind := range []int{api.MinInt, api.MaxInt} {
		if schema.Scalar(api.Type{Kind: kind}) {
			t.Errorf("of kind %d", kind)
		}
	}
}
