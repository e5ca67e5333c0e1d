package snap_test

import (
	"slices"
	"testing"

	"cabochon/api"
	"cabochon/doc"
	"cabochon/graph"
	"cabochon/snap"
)

// grown is s with that registry.
func grown(s api.Snap, r api.Registry, err api.Errno) api.Snap {
	if err != api.OK {
		panic(err)
	}
	return api.Snap{Reg: r, Files: s.Files}
}

// declared is s with a schema more, as graph adds it.
func declared(s api.Snap, name, t string) api.Snap {
	r, err := graph.AddSchema(s.Reg, name, typ(t))
	return grown(s, r, err)
}

// joined is s with a join more, as graph adds it, and as if no file had to do with it.
func joined(s api.Snap, from, to, l string) api.Snap {
	r, err := graph.AddJoin(s.Reg, from, to, lenses(l))
	return grown(s, r, err)
}

func TestP13_4Declare(t *testing.T) {
	for what, s := range rights() {
		if len(s.Reg.Schemas) == api.MaxSchemas {
			continue
		}
		for _, x := range []string{"{}", "{a: bool, b?: list (0 .. 3) of {c: int (0 .. 9)}}"} {
			wantBoth(t, what, declared(s, "z", x), api.OK)(snap.Declare(s, "z", typ(x)))
			wantBoth(t, what+", with spare room", declared(s, "z", x), api.OK)(snap.Declare(roomy(s), "z", roomy(typ(x))))
		}
	}
	for what, c := range map[string]struct {
		s       api.Snap
		name, t string
		wanted  api.Errno
	}{
		"no name":                        {held(), "", "{}", api.ErrArg},
		"a name that is none":            {held(), "Z", "{}", api.ErrArg},
		"no record":                      {held(), "z", "bool", api.ErrArg},
		"there already":                  {held(), "s", "{}", api.ErrTwice},
		"there already, of another type": {held(), "x", "{b: bool}", api.ErrTwice},
		"there already, and no record":   {held(), "s", "bool", api.ErrArg},
		"too many":                       {snapshot(alike(12)), "z", "{}", api.ErrFull},
		"too many, with a file":          {rights()["the last schema"], "z", "{}", api.ErrFull},
		"too many, and there already":    {snapshot(alike(12)), "s5", "{}", api.ErrTwice},
	} {
		wantBoth(t, what, api.Snap{}, c.wanted)(snap.Declare(c.s, c.name, typ(c.t)))
	}
	for _, x := range []api.Type{{}, {Kind: -1}, {Kind: api.TRec, Fields: make([]api.Field, 1)}, {Kind: api.TInt, Lo: 1}} {
		wantBoth(t, "a type that is not right", api.Snap{}, api.ErrArg)(snap.Declare(held(), "z", x))
	}
	wantBoth(t, "the twelfth", declared(snapshot(alike(11)), "z", "{}"), api.OK)(snap.Declare(snapshot(alike(11)), "z", typ("{}")))
	wantBoth(t, "a file's name", declared(held(), "f", "{}"), api.OK)(snap.Declare(held(), "f", typ("{}")))
}

func TestP13_4Join(t *testing.T) {
	far := declared(held(), "y", "{a: int (0 .. 9), d: bool, e: int (0 .. 9)}")
	from, to := "add d: bool = true; add e: int (0 .. 9) = 7;", "remove e: int (0 .. 9) = 7; remove d: bool = true;"
	for what, c := range map[string]struct {
		s           api.Snap
		from, to, l string
		files       []api.File // those that are others
	}{
		"alone, and more behind it":    {far, "x", "y", from, []api.File{file("m", 5, "{a = 5}", left(3, place(0), "true"), left(3, place(1), "7"))}},
		"alone, and more ahead of it":  {far, "y", "x", to, []api.File{file("m", 5, "{a = 5}", left(3, place(0), "7"), left(3, place(1), "true"))}},
		"others, and more":             {far, "s", "y", from, []api.File{file("f", 0, "{a = 3}", left(0, place(0), "true"), left(3, place(0), "true"), left(3, place(1), "7")), file("g", 2, "{b = true, c = 4}", left(3, place(0), "true"), left(3, place(1), "7"))}},
		"others, and more ahead":       {far, "y", "s", to, []api.File{file("f", 0, "{a = 3}", left(0, place(0), "true"), left(3, place(0), "7"), left(3, place(1), "true")), file("g", 2, "{b = true, c = 4}", left(3, place(0), "7"), left(3, place(1), "true"))}},
		"two of them, alike":           {far, "s", "x", "", []api.File{file("m", 5, "{a = 5}", left(0, place(0), "false"))}},
		"two of them, the other way":   {far, "x", "s", "", []api.File{file("m", 5, "{a = 5}", left(0, place(0), "false"))}},
		"two of them, at another":      {far, "x", "t", "add b: bool = true;", []api.File{file("f", 0, "{a = 3}", left(0, place(0), "true")), file("m", 5, "{a = 5}", left(3, place(0), "true"))}},
		"two of them, less":            {far, "t", "x", "remove b: bool = true;", []api.File{file("m", 5, "{a = 5}", left(3, place(0), "true"))}},
		"both, and more on both sides": {declared(held(), "y", "{a: int (0 .. 9), d: bool}"), "u", "y", "remove b: bool = true; rename c to a; add d: bool = true;", []api.File{file("f", 0, "{a = 3}", left(0, place(0), "true"), left(3, place(2), "true")), file("g", 2, "{b = true, c = 4}", left(3, place(2), "true"))}},
		"none of them":                 {declared(declared(held(), "y", "{}"), "z", "{a: bool}"), "y", "z", "add a: bool = true;", nil},
	} {
		wanted := joined(c.s, c.from, c.to, c.l)
		for _, f := range c.files {
			i := slices.IndexFunc(wanted.Files, func(own api.File) bool { return own.Name == f.Name })
			wanted = with(wanted, i, i+1, f)
		}
		wantBoth(t, what, wanted, api.OK)(snap.Join(c.s, c.from, c.to, lenses(c.l)))
		wantBoth(t, what+", with spare room", wanted, api.OK)(snap.Join(roomy(c.s), c.from, c.to, roomy(lenses(c.l))))
	}
	wantBoth(t, "no files", joined(snapshot(far.Reg), "x", "y", from), api.OK)(snap.Join(snapshot(far.Reg), "x", "y", lenses(from)))
}

func TestP13_4JoinRefused(t *testing.T) {
	for what, c := range map[string]struct {
		from, to, l string
		wanted      api.Errno
	}{
		"no such schema":              {"z", "s", "", api.ErrNone},
		"to no such schema":           {"s", "z", "", api.ErrNone},
		"no names":                    {"", "", "", api.ErrNone},
		"a file's name":               {"f", "x", "", api.ErrNone},
		"itself":                      {"s", "s", "", api.ErrCycle},
		"joined already":              {"s", "t", "add b: bool = false;", api.ErrCycle},
		"joined already, far":         {"s", "u", "add b: bool = false; rename a to c;", api.ErrCycle},
		"joined, and no lens for it":  {"u", "s", "rename z to a;", api.ErrCycle},
		"to another type":             {"s", "x", "add b: bool = false;", api.ErrType},
		"to another type, of none":    {"s", "v", "", api.ErrType},
		"a step that misses a field":  {"s", "x", "rename b to a;", api.ErrMiss},
		"a field that is there":       {"s", "x", "add a: bool = true;", api.ErrTwice},
		"a step out of its range":     {"s", "x", "add b: int (0 .. 9) = 10;", api.ErrRange},
		"a step of another type":      {"s", "x", "head a;", api.ErrType},
		"no such schema, and no lens": {"z", "s", "rename b to a;", api.ErrNone},
	} {
		wantBoth(t, what, api.Snap{}, c.wanted)(snap.Join(held(), c.from, c.to, lenses(c.l)))
		wantBoth(t, what+", of no files", api.Snap{}, c.wanted)(snap.Join(snapshot(some()), c.from, c.to, lenses(c.l)))
	}
	wantBoth(t, "too many steps", api.Snap{}, api.ErrFull)(snap.Join(held(), "s", "x", make([]api.Lens, api.MaxSteps+1)))
	wantBoth(t, "a step that is none", api.Snap{}, api.ErrArg)(snap.Join(held(), "s", "x", make([]api.Lens, 1)))
	wantBoth(t, "a step that may not be", api.Snap{}, api.ErrArg)(snap.Join(held(), "s", "x", []api.Lens{{Kind: api.LConvert, A: "a"}}))
	deep := api.Lens{Kind: api.LIn, A: "a"}
	for range 8 {
		deep = api.Lens{Kind: api.LIn, A: "a", Subs: []api.Lens{deep}}
	}
	wantBoth(t, "a step that is too deep", api.Snap{}, api.ErrDeep)(snap.Join(held(), "s", "x", []api.Lens{deep}))
}

// packed is a file of so many entries at the schema s.
func packed(name string, n int, x string) api.File {
	return api.File{Name: name, State: api.State{Doc: rec("d", dict(n, val(x)))}}
}

// Files that a join makes too much of.
func TestP13_4JoinMakesTooMuch(t *testing.T) {
	r := registry("s: {d: dict (0 .. 512) of {x: bool}}", "t: {d: dict (0 .. 512) of {a: bool, x: bool}}", "u: {d: dict (0 .. 512) of {a: bool, b: bool, x: bool}}")
	one, two := "map d {add a: bool = true;};", "map d {add a: bool = true; add b: bool = true;};"
	for what, c := range map[string]struct {
		files  []api.File
		to, l  string
		wanted api.Errno
	}{
		"as many parts as may be":          {[]api.File{packed("f", 170, "{x = true}")}, "t", one, api.OK},
		"too many parts":                   {[]api.File{packed("f", 171, "{x = true}")}, "t", one, api.ErrFull},
		"as many parts, of more":           {[]api.File{packed("f", 127, "{x = true}")}, "u", two, api.OK},
		"too many parts, of more":          {[]api.File{packed("f", 128, "{x = true}")}, "u", two, api.ErrFull},
		"too many of the last one":         {[]api.File{packed("f", 3, "{x = true}"), packed("g", 170, "{x = true}"), packed("h", 171, "{x = true}")}, "t", one, api.ErrFull},
		"too many of one between":          {[]api.File{packed("f", 3, "{x = true}"), packed("g", 171, "{x = true}"), packed("h", 4, "{x = true}")}, "t", one, api.ErrFull},
		"as many, of another one's schema": {[]api.File{packed("f", 171, "{x = true}")}, "", "", api.OK},
	} {
		s := snapshot(r, c.files...)
		if c.to == "" {
			s, c.to, c.l = declared(declared(s, "v", "{}"), "w", "{}"), "v", ""
			wantBoth(t, what, joined(s, "v", "w", ""), api.OK)(snap.Join(s, "v", "w", nil))
			continue
		}
		made, err := snap.Join(s, "s", c.to, lenses(c.l))
		if err != c.wanted || snap.Right(made) != true || (err == api.OK) != (len(made.Files) == len(c.files)) {
			t.Errorf("%s: %v, %s", what, err, short(show(made)))
		}
		if err != api.OK {
			want(t, what, made, api.Snap{})
		}
	}
}

// The first error of the files is told.
func TestP13_4JoinTellsTheFirstFile(t *testing.T) {
	r := registry("s: {d: dict (0 .. 512) of {}, e: dict (0 .. 512) of {x: bool}}", "t: {d: dict (0 .. 512) of {a: bool}, e: dict (0 .. 512) of {b: bool, x: bool}}", "u: {}", "v: {k: bool}", "w: {d: dict (0 .. 512) of {a: bool, c: bool}, e: dict (0 .. 512) of {b: bool, x: bool}}", "2 > 3: add k: bool = true;", "1 > 4: map d {add c: bool = true;};")
	l := lenses("map d {add a: bool = true;}; map e {add b: bool = true;};")
	state := func(name string, d, e int) api.File {
		both := doc.Rec([]string{"d", "e"}, []api.Doc{dict(d, val("{}")), dict(e, val("{x = true}"))})
		return api.File{Name: name, State: api.State{Doc: both}}
	}
	less, many, wide := func(name string) api.File { return state(name, 2, 2) }, func(name string) api.File { return state(name, 130, 0) }, func(name string) api.File { return state(name, 0, 171) }
	for what, c := range map[string]struct {
		files  []api.File
		wanted api.Errno
	}{
		"too much that is left out":              {[]api.File{many("f")}, api.ErrArg},
		"too many parts":                         {[]api.File{wide("f")}, api.ErrFull},
		"left out, and then parts":               {[]api.File{many("f"), wide("g")}, api.ErrArg},
		"parts, and then left out":               {[]api.File{wide("f"), many("g")}, api.ErrFull},
		"one between, left out, and then parts":  {[]api.File{less("f"), many("g"), less("h"), wide("k")}, api.ErrArg},
		"one between, parts, and then left out":  {[]api.File{less("f"), wide("g"), less("h"), many("k")}, api.ErrFull},
		"ones of another schema, and then parts": {[]api.File{file("f", 2, "{}", left(0, place(0), "false")), wide("g"), many("h")}, api.ErrFull},
	} {
		s := snapshot(r, c.files...)
		if !snap.Right(s) {
			t.Fatalf("%s: not right", what)
		}
		wantBoth(t, what, api.Snap{}, c.wanted)(snap.Join(s, "s", "t", l))
		wantBoth(t, what+", and no schema", api.Snap{}, api.ErrNone)(snap.Join(s, "s", "z", l))
		wantBoth(t, what+", and no lens", api.Snap{}, api.ErrType)(snap.Join(s, "s", "t", nil))
	}
}
