package snap_test

import (
	"slices"
	"testing"

	"cabochon/api"
	"cabochon/doc"
	"cabochon/snap"
	"cabochon/trans"
)

// Examples of the document.
func TestP13Examples(t *testing.T) {
	b := lenses("add c: bool = false;")
	s, _ := snap.Declare(api.Snap{}, "s", typ("{}"))
	s, _ = snap.Declare(s, "t", typ("{c: bool}"))
	s, _ = snap.Join(s, "s", "t", b)
	s, err := snap.Write(s, "f", "s", val("{}"))
	wantBoth(t, "written", snapshot(registry("s: {}", "t: {c: bool}", "0 > 1: add c: bool = false;"), file("f", 0, "{}", left(0, place(0), "false"))), api.OK)(s, err)
	wantBoth(t, "read", val("{c = false}"), api.OK)(snap.Read(s, "f", "t"))

	s, _ = snap.Declare(api.Snap{}, "s", typ("{port: int (0 .. 9)}"))
	s, _ = snap.Declare(s, "t", typ("{port: int (0 .. 9), tls: bool}"))
	s, _ = snap.Join(s, "s", "t", lenses("add tls: bool = false;"))
	s, _ = snap.Write(s, "f", "s", val("{port = 5}"))
	wantBoth(t, "read", val("{port = 5, tls = false}"), api.OK)(snap.Read(s, "f", "t"))
	s, _ = snap.Write(s, "f", "t", val("{port = 5, tls = true}"))
	s, _ = snap.Write(s, "f", "s", val("{port = 6}"))
	wantBoth(t, "read", val("{port = 6, tls = true}"), api.OK)(snap.Read(s, "f", "t"))
}

// views is what each schema sees of each file of s, by their names; what is not seen is not there.
func views(s api.Snap) map[[2]string]string {
	all := map[[2]string]string{}
	for _, f := range s.Files {
		for k, n := range s.Reg.Schemas {
			if d, err := trans.Seen(s.Reg, f.Schema, k, f.State); err == api.OK {
				all[[2]string{f.Name, n.Name}] = show(d)
			}
		}
	}
	return all
}

// wantViews is whether all that was seen of files, but of that one, is seen so behind what was done.
func wantViews(t *testing.T, what string, before, behind map[[2]string]string, but string) {
	t.Helper()
	for at, d := range before {
		if at[0] != but && behind[at] != d {
			t.Errorf("%s: %s of %s: %s, not %s", what, at[1], at[0], behind[at], d)
		}
	}
}

// others is the files of s but that one.
func others(s api.Snap, name string) []api.File {
	return slices.DeleteFunc(slices.Clone(s.Files), func(f api.File) bool { return f.Name == name })
}

// What is told without an error is right, what was written is read, and no other file is another one.
func TestP13_6AnyOps(t *testing.T) {
	t.Parallel()
	r := chance(21, 22)
	came := map[int]int{}
	for _, s := range append(snaps(23, 50), make([]api.Snap, 20)...) {
		m := maker{r: r}
		for range 20 {
			o := m.next(s)
			next, err := done(s, o)
			if err != api.OK {
				want(t, "with an error", next, api.Snap{})
				continue
			}
			came[o.Do]++
			if !snap.Right(next) {
				t.Fatalf("not right: %s of %s: %s", show(o), show(s), show(next))
			}
			before, behind := views(s), views(next)
			switch o.Do {
			case api.OpWrite:
				wantBoth(t, "what was written", o.Doc, api.OK)(snap.Read(next, o.Name, o.Schema))
				wantViews(t, "written", before, behind, o.Name)
				want(t, "other files", others(next, o.Name), others(s, o.Name))
			case api.OpDrop:
				wantBoth(t, "what was dropped", api.Doc{}, api.ErrNone)(snap.Read(next, o.Name, o.Schema))
				wantViews(t, "dropped", before, behind, o.Name)
				want(t, "other files", others(next, o.Name), others(s, o.Name))
			case api.OpMigrate:
				wantViews(t, "migrated", before, behind, "")
				want(t, "other files", others(next, o.Name), others(s, o.Name))
			default:
				wantViews(t, "what no file has to do with", before, behind, "")
			}
			s = next
		}
	}
	for do, n := range map[int]int{api.OpWrite: 100, api.OpDrop: 20, api.OpDeclare: 50, api.OpJoin: 20, api.OpMigrate: 40} {
		if came[do] < n {
			t.Errorf("op %d came up %d times", do, came[do])
		}
	}
}

// Who writes what they see changes nothing for any schema, and what one schema writes another one sees, but for what the first one does not see.
func TestP13_6WhoWritesWhatTheySee(t *testing.T) {
	t.Parallel()
	wrote := 0
	for _, s := range snaps(25, 60) {
		before := views(s)
		for at := range before {
			d, err := snap.Read(s, at[0], at[1])
			if err != api.OK || show(d) != before[at] {
				t.Errorf("read: %s, %v, not %s", show(d), err, before[at])
			}
			next, err := snap.Write(s, at[0], at[1], d)
			if err != api.OK {
				t.Errorf("written: %v", err)
			}
			wantViews(t, "written as it is seen", before, views(next), "")
			wantBoth(t, "migrated", next, api.OK)(snap.Migrate(s, at[0], at[1]))
			wrote++
		}
	}
	if wrote < 200 {
		t.Errorf("%d written", wrote)
	}
}

// What is written by one schema, and then by another one, and what neither sees of the other's.
func TestP13_6InTurns(t *testing.T) {
	s := hosted()
	s, _ = snap.Write(s, "f", "s", val(`{h = <"a": {port = 7}, "c": {port = 8}>, n = 9}`))
	s, _ = snap.Write(s, "f", "u", val(`{h = <"a": {tls = true}, "c": {tls = false}, "d": {tls = true}>, m = "y"}`))
	for schema, d := range map[string]string{
		"s": `{h = <"a": {port = 7}, "c": {port = 8}, "d": {port = 80}>, n = 9}`,
		"t": `{h = <"a": {port = 7, tls = true}, "c": {port = 8, tls = false}, "d": {port = 80, tls = true}>}`,
		"u": `{h = <"a": {tls = true}, "c": {tls = false}, "d": {tls = true}>, m = "y"}`,
	} {
		wantBoth(t, schema, val(d), api.OK)(snap.Read(s, "f", schema))
	}
	s, _ = snap.Write(s, "f", "t", val(`{h = <"c": {port = 1, tls = true}>}`))
	s, _ = snap.Write(s, "f", "t", val(`{h = <"a": {port = 2, tls = true}, "c": {port = 1, tls = true}>}`))
	wantBoth(t, "s", val(`{h = <"a": {port = 2}, "c": {port = 1}>, n = 9}`), api.OK)(snap.Read(s, "f", "s"))
	wantBoth(t, "u", val(`{h = <"a": {tls = true}, "c": {tls = true}>, m = "y"}`), api.OK)(snap.Read(s, "f", "u"))
}

func TestP13_7WhoMigratesAndMigratesBack(t *testing.T) {
	t.Parallel()
	ways := 0
	for _, s := range snaps(27, 60) {
		for _, f := range s.Files {
			for k, n := range s.Reg.Schemas {
				there, err := snap.Migrate(s, f.Name, n.Name)
				if err == api.ErrNoPath {
					continue
				}
				if i := snap.Find(there, f.Name); err != api.OK || there.Files[i].Schema != k {
					t.Errorf("%s to %s: %v", f.Name, n.Name, err)
				}
				wantBoth(t, "back", s, api.OK)(snap.Migrate(there, f.Name, s.Reg.Schemas[f.Schema].Name))
				if back, _ := snap.Migrate(there, f.Name, s.Reg.Schemas[f.Schema].Name); !snap.Same(back, s) {
					t.Errorf("%s to %s, and back: not the same", f.Name, n.Name)
				}
				ways++
			}
		}
	}
	if ways < 200 {
		t.Errorf("%d ways", ways)
	}
}

// At the limits, too: as many files, each of which has as much left out, as may be.
func TestP13_7AtTheLimits(t *testing.T) {
	s := snapshot(pile())
	var err api.Errno
	for i := range api.MaxFiles {
		if s, err = snap.Write(s, name(i+10), "s", piled(0, 128)); err != api.OK {
			t.Fatal(err)
		}
	}
	there, err := snap.Migrate(s, "s17", "u")
	if err != api.OK || !snap.Right(there) {
		t.Fatal(err)
	}
	wantBoth(t, "back", s, api.OK)(snap.Migrate(there, "s17", "s"))
	wantBoth(t, "seen", piled(2, 128), api.OK)(snap.Read(there, "s17", "u"))
	wantBoth(t, "seen", piled(1, 128), api.OK)(snap.Read(there, "s17", "t"))
	wantBoth(t, "one more", api.Snap{}, api.ErrFull)(snap.Write(s, "z", "s", piled(0, 1)))
}

// No call panics, each ends, and tells the same again, whatever it is given.
func TestW1AnyArguments(t *testing.T) {
	t.Parallel()
	r := chance(29, 30)
	all := snaps(31, 60)
	numbers := []int{-1, 0, 1, 2, 5, 12, 13, api.MinInt, api.MaxInt}
	docs := []api.Doc{{}, val("{}"), val("[1]"), {Kind: api.DRec, Keys: []string{"a", "b"}}, {Kind: api.DRec, Kids: make([]api.Doc, 2)}, {Kind: api.DList, Kids: make([]api.Doc, 600)}, {Kind: -5, Num: 7}}
	rows := [][]api.Res{nil, make([]api.Res, 3), many(1, 300), {left(0, nil, "1"), left(0, nil, "1")}, {left(0, place(0), "true")}, {{Doc: docs[3]}}}
	types := []api.Type{{}, typ("{}"), typ("bool"), {Kind: api.TDict}, {Kind: api.TRec, Fields: make([]api.Field, 40)}, {Kind: 9}}
	lens := [][]api.Lens{nil, make([]api.Lens, 1), make([]api.Lens, 100), lenses("add z: bool = true;"), {{Kind: api.LIn, Subs: make([]api.Lens, 1)}}, {{Kind: -3}}}
	for range 600 {
		s := any1(r, all)
		if r.IntN(2) == 0 {
			s = messed(r, s)
		}
		if len(s.Files) > 0 && r.IntN(3) == 0 {
			s.Files = append(slices.Clone(s.Files), api.File{Name: any1(r, []string{"zz", "", "\xff"}), Schema: any1(r, numbers), State: api.State{Doc: any1(r, docs), Res: any1(r, rows)}})
		}
		m := maker{r: r}
		o := m.next(s)
		if r.IntN(3) == 0 {
			o.Doc, o.Type, o.Lens = any1(r, docs), any1(r, types), any1(r, lens)
		}
		l, places := any1(r, rows), any1(r, rows)
		ask := func() string {
			made, err := done(s, o)
			d, readErr := snap.Read(s, o.Name, o.Schema)
			if err != api.OK && show(made) != show(api.Snap{}) || readErr != api.OK && show(d) != show(api.Doc{}) {
				t.Errorf("%v, and %s; %v, and %s", err, show(made), readErr, show(d))
			}
			return show([]any{made, err, d, readErr, snap.Right(s), snap.Find(s, o.Name), snap.Copy(s), snap.Same(s, made), snap.Kept(l, places)})
		}
		if one, two := ask(), ask(); one != two {
			t.Errorf("%s, and then %s", short(one), short(two))
		}
	}
}

func TestW1FarTooMuch(t *testing.T) {
	t.Parallel()
	const much = 1 << 16
	shared, deep := doc.Int(1), doc.Int(1)
	for range 60 {
		shared = api.Doc{Kind: api.DList, Kids: []api.Doc{shared, shared}}
	}
	for range much {
		deep = api.Doc{Kind: api.DList, Kids: []api.Doc{deep}}
	}
	most := make([]api.Res, 1<<18)
	for i := range most {
		most[i] = api.Res{Edge: i, Doc: val("true")}
	}
	long := string(make([]byte, much))
	for what, s := range map[string]api.Snap{
		"a document of parts without end": with(held(), 4, 4, api.File{Name: "n", Schema: 5, State: api.State{Doc: shared}}),
		"a document that is far too deep": with(held(), 4, 4, api.File{Name: "n", Schema: 5, State: api.State{Doc: deep}}),
		"one that is left out":            with(held(), 4, 4, api.File{Name: "n", Schema: 5, State: api.State{Doc: val("{a = 5}"), Res: []api.Res{{Doc: shared}}}}),
		"far too much that is left out":   with(held(), 4, 4, api.File{Name: "n", Schema: 5, State: api.State{Doc: val("{a = 5}"), Res: most}}),
		"far too many files":              snapshot(some(), make([]api.File, 1<<20)...),
		"far too many schemas":            snapshot(api.Registry{Schemas: make([]api.Named, 1<<20)}),
		"a name that is far too long":     with(held(), 4, 4, named(long)),
	} {
		if snap.Right(s) || snap.Find(s, "n") != -1 {
			t.Errorf("%s: right", what)
		}
		wantBoth(t, what, api.Snap{}, api.ErrArg)(snap.Write(s, "n", "s", val("{a = 1}")))
		wantBoth(t, what, api.Snap{}, api.ErrArg)(snap.Drop(s, "n"))
		wantBoth(t, what, api.Doc{}, api.ErrArg)(snap.Read(s, "n", "s"))
	}
	for _, d := range []api.Doc{shared, deep, {Kind: api.DRec, Keys: []string{"a"}, Kids: []api.Doc{shared}}} {
		wantBoth(t, "written", api.Snap{}, api.ErrType)(snap.Write(held(), "f", "s", d))
	}
	wantBoth(t, "a long name", api.Snap{}, api.ErrArg)(snap.Write(held(), long, "s", val("{a = 1}")))
	wantBoth(t, "a long schema", api.Snap{}, api.ErrNone)(snap.Write(held(), "f", long, val("{a = 1}")))
	if snap.Find(held(), long) != -1 {
		t.Error("a long name is found")
	}
}
