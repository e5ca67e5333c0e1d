package graph_test

import (
	"strings"
	"testing"

	"cabochon/api"
	"cabochon/graph"
)

// some is schemas of which some are joined: 0, 1 and 2, and 3 and 4; 5 is alone.
func some() api.Registry {
	return registry(
		"s: {a: int (0 .. 9)}", "t: {a: int (0 .. 9), b: bool}", "u: {b: bool, c: int (0 .. 9)}",
		"v: {r: {x: bool}}", "w: {r: {}, x: bool}", "x: {a: int (0 .. 9)}",
		"0 > 1: add b: bool = false;", "2 > 1: rename c to a;", "3 > 4: hoist x out of r;",
	)
}

func TestP10_1Find(t *testing.T) {
	r := some()
	for k, s := range r.Schemas {
		if got := graph.Find(r, s.Name); got != k {
			t.Errorf("%s: %d, not %d", s.Name, got, k)
		}
	}
	for _, name := range []string{"", "S", "ss", "a", "s ", "s\x00", "y", "0", strings.Repeat("s", 17)} {
		if got := graph.Find(r, name); got != -1 {
			t.Errorf("%q: %d", name, got)
		}
		if got := graph.Find(api.Registry{}, name); got != -1 {
			t.Errorf("%q, of none: %d", name, got)
		}
	}
}

func TestP10_1AddSchema(t *testing.T) {
	long := "a" + strings.Repeat("_", 14) + "9"
	var r, whole api.Registry
	for _, s := range append(some().Schemas,
		api.Named{Name: "a", Type: typ("{}")}, api.Named{Name: long, Type: typ("{a?: list (0 .. 1) of {b: dict (1 .. 2) of bool}}")},
		api.Named{Name: "ss", Type: wide(32)}) {
		whole.Schemas = append(whole.Schemas, s)
		var err api.Errno
		r, err = graph.AddSchema(r, s.Name, s.Type)
		wantBoth(t, s.Name, whole, api.OK)(r, err)
	}
	r = some()
	more := some()
	more.Schemas = append(more.Schemas, api.Named{Name: "b", Type: typ("{a: bool}")})
	wantBoth(t, "behind joins", more, api.OK)(graph.AddSchema(r, "b", typ("{a: bool}")))
}

func TestP10_1AddSchemaThatMayNotBe(t *testing.T) {
	rec, none := typ("{a: bool}"), api.Registry{}
	for _, name := range []string{"", "S", "9", "_s", "s-", "s t", "é", "s\x00", strings.Repeat("s", 17)} {
		for _, r := range []api.Registry{{}, some(), alike(12)} {
			wantBoth(t, "name "+name, none, api.ErrArg)(graph.AddSchema(r, name, rec))
		}
	}
	for _, x := range []api.Type{
		{}, typ("bool"), typ("int (0 .. 9)"), typ("dict (0 .. 1) of {a: bool}"), typ("list (0 .. 1) of {a: bool}"), typ(`enum ("a")`), typ("bytes (0 .. 1)"),
		{Kind: api.TRec, Lo: 1}, {Kind: api.TRec, Names: []string{"a"}}, {Kind: api.TRec, Of: []api.Type{rec}}, {Kind: 8},
		{Kind: api.TRec, Fields: []api.Field{{Name: "a"}}}, {Kind: api.TRec, Fields: []api.Field{{Name: "b", Type: rec}, {Name: "a", Type: rec}}}, wide(33),
	} {
		for _, r := range []api.Registry{{}, some(), alike(12)} {
			wantBoth(t, show(x), none, api.ErrArg)(graph.AddSchema(r, "b", x))
			wantBoth(t, "there already, "+show(x), none, api.ErrArg)(graph.AddSchema(r, "s", x))
		}
	}
	for _, s := range some().Schemas {
		wantBoth(t, "there already", none, api.ErrTwice)(graph.AddSchema(some(), s.Name, rec))
		wantBoth(t, "there already, alike", none, api.ErrTwice)(graph.AddSchema(some(), s.Name, s.Type))
	}
}

func TestP10_1AddSchemaAtTheLimit(t *testing.T) {
	wantBoth(t, "the last one", alike(12), api.OK)(graph.AddSchema(alike(11), name(11), typ("{a: bool}")))
	wantBoth(t, "one more", api.Registry{}, api.ErrFull)(graph.AddSchema(alike(12), name(12), typ("{a: bool}")))
	for k := range 12 {
		wantBoth(t, "one that is there", api.Registry{}, api.ErrTwice)(graph.AddSchema(alike(12), name(k), typ("{}")))
	}
}

func TestP10_1AddJoin(t *testing.T) {
	r, whole := some(), some()
	r.Joins = nil
	for i, j := range some().Joins {
		whole.Joins = some().Joins[:i+1]
		var err api.Errno
		r, err = graph.AddJoin(r, r.Schemas[j.From].Name, r.Schemas[j.To].Name, j.Lens)
		wantBoth(t, show(j), whole, api.OK)(r, err)
	}
	for _, c := range []struct {
		from, to, lens string
		made           api.Join
	}{
		{"s", "x", "", join(0, 5)},
		{"x", "s", "", join(5, 0)},
		{"x", "t", "add b: bool = true;", join(5, 1)},
		{"t", "x", "remove b: bool = true;", join(1, 5)},
		{"u", "x", "rename c to z; remove b: bool = false; rename z to a;", join(2, 5)},
	} {
		whole := some()
		c.made.Lens = lenses(c.lens)
		whole.Joins = append(whole.Joins, c.made)
		wantBoth(t, c.from+" to "+c.to, whole, api.OK)(graph.AddJoin(some(), c.from, c.to, c.made.Lens))
	}
	deep := []string{"s: {d: dict (0 .. 4) of {r: {a: bool}}}", "t: {d: dict (0 .. 4) of {a: bool, r: {b?: bool}}}", "u: {d: dict (0 .. 4) of {r: {a: bool, b?: bool}}}"}
	plunged := "map d {in r {rename b to c;}; plunge a in r; in r {rename c to b;};};"
	wantBoth(t, "steps within others", registry(append(deep, "1 > 2:"+plunged)...), api.OK)(graph.AddJoin(registry(deep...), "t", "u", lenses(plunged)))
}

// What is joined need not be used: parts of a step that its kind does not name stay as they are.
func TestP10_1AddJoinKeepsTheLens(t *testing.T) {
	l := []api.Lens{{Kind: api.LRename, A: "a", B: "b", Type: typ("{x: bool}"), Doc: val("[1]"), Swaps: [][2]int{{1, 1}}, Subs: lenses("wrap z;")}}
	r := registry("s: {a: bool}", "t: {b: bool}")
	whole := registry("s: {a: bool}", "t: {b: bool}")
	whole.Joins = []api.Join{{From: 0, To: 1, Lens: l}}
	wantBoth(t, "all parts", whole, api.OK)(graph.AddJoin(r, "s", "t", l))
}

func TestP10_1AddJoinThatMayNotBe(t *testing.T) {
	nine := lenses("wrap a;")
	for range 8 {
		nine = []api.Lens{{Kind: api.LIn, A: "r", Subs: nine}}
	}
	for _, c := range []struct {
		from, to string
		l        []api.Lens
		err      api.Errno
	}{
		{"", "", nil, api.ErrNone},
		{"y", "s", nil, api.ErrNone},
		{"s", "y", nil, api.ErrNone},
		{"y", "y", nil, api.ErrNone},
		{"y", "s", make([]api.Lens, 65), api.ErrNone},
		{"s", "S", nine, api.ErrNone},

		{"s", "s", nil, api.ErrCycle},
		{"x", "x", nil, api.ErrCycle},
		{"x", "x", make([]api.Lens, 65), api.ErrCycle},
		{"s", "t", lenses("add b: bool = false;"), api.ErrCycle},
		{"s", "t", lenses("add b: bool = true;"), api.ErrCycle},
		{"t", "s", lenses("remove b: bool = false;"), api.ErrCycle},
		{"t", "u", lenses("rename a to c;"), api.ErrCycle},
		{"s", "u", lenses("add b: bool = false; rename a to c;"), api.ErrCycle},
		{"u", "s", nil, api.ErrCycle},
		{"u", "s", nine, api.ErrCycle},
		{"w", "v", lenses("plunge x in r;"), api.ErrCycle},

		{"s", "x", make([]api.Lens, 65), api.ErrFull},
		{"s", "x", nine, api.ErrDeep},
		{"s", "x", make([]api.Lens, 1), api.ErrArg},
		{"s", "x", lenses("rename b to a;"), api.ErrMiss},
		{"s", "x", lenses("add a: bool = true;"), api.ErrTwice},
		{"s", "x", lenses("add b: bool = 3;"), api.ErrRange},
		{"s", "x", lenses("head a;"), api.ErrType},
		{"s", "x", lenses("rename a to b; wrap b; wrap a;"), api.ErrMiss},
		{"t", "v", lenses("hoist x out of r;"), api.ErrMiss},
		{"v", "t", lenses("hoist x out of r; hoist x out of r;"), api.ErrMiss},

		{"s", "v", nil, api.ErrType},
		{"x", "t", nil, api.ErrType},
		{"t", "x", nil, api.ErrType},
		{"s", "x", lenses("rename a to b;"), api.ErrType},
		{"s", "x", lenses("add b: bool = true;"), api.ErrType},
		{"x", "t", lenses("add b: int (0 .. 1) = 0;"), api.ErrType},
		{"v", "x", lenses("hoist x out of r;"), api.ErrType},
	} {
		wantBoth(t, c.from+" to "+c.to+" by "+show(c.l), api.Registry{}, c.err)(graph.AddJoin(some(), c.from, c.to, c.l))
	}
}

// The type that a lens leads to is the one that the schema has, in all depths.
func TestP10_1AddJoinOfNearlyThatType(t *testing.T) {
	from := "s: {a: {b: list (0 .. 3) of int (0 .. 9), e: " + `enum ("x", "y")` + ", o?: bool}}"
	for to, err := range map[string]api.Errno{
		from: api.OK,
		"s: {a: {b: list (0 .. 3) of int (0 .. 9), e: enum (\"x\", \"y\"), o: bool}}":           api.ErrType,
		"s: {a: {b: list (0 .. 3) of int (0 .. 8), e: enum (\"x\", \"y\"), o?: bool}}":          api.ErrType,
		"s: {a: {b: list (0 .. 2) of int (0 .. 9), e: enum (\"x\", \"y\"), o?: bool}}":          api.ErrType,
		"s: {a: {b: dict (0 .. 3) of int (0 .. 9), e: enum (\"x\", \"y\"), o?: bool}}":          api.ErrType,
		"s: {a: {b: list (0 .. 3) of int (0 .. 9), e: enum (\"x\"), o?: bool}}":                 api.ErrType,
		"s: {a: {b: list (0 .. 3) of int (0 .. 9), e: enum (\"x\", \"y\")}}":                    api.ErrType,
		"s: {a: {b: list (0 .. 3) of int (0 .. 9), e: enum (\"x\", \"y\"), o?: bool}, b: bool}": api.ErrType,
		"s: {a?: {b: list (0 .. 3) of int (0 .. 9), e: enum (\"x\", \"y\"), o?: bool}}":         api.ErrType,
		"s: {}": api.ErrType,
	} {
		r := registry(from, "t"+to[1:])
		made, told := graph.AddJoin(r, "s", "t", nil)
		if told != err || (err == api.OK) != (len(made.Joins) == 1) {
			t.Errorf("%s: %v, not %v", to, told, err)
		}
	}
}

func TestP10_1AddJoinAtTheLimits(t *testing.T) {
	r := alike(2)
	wantBoth(t, "as many steps as may be", alike(2, join(0, 1, most()...)), api.OK)(graph.AddJoin(r, name(0), name(1), most()))
	wantBoth(t, "one more", api.Registry{}, api.ErrFull)(graph.AddJoin(r, name(0), name(1), append(most(), most()[0])))

	r = alike(12)
	for k := range 11 {
		var err api.Errno
		if r, err = graph.AddJoin(r, name(k), name(k+1), nil); err != api.OK {
			t.Errorf("join %d: %v", k, err)
		}
	}
	if len(r.Joins) != 11 || !graph.Right(r) {
		t.Errorf("%d joins", len(r.Joins))
	}
	wantBoth(t, "the twelfth", api.Registry{}, api.ErrCycle)(graph.AddJoin(r, name(0), name(11), nil))
}
