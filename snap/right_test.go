package snap_test

import (
	"slices"
	"strconv"
	"strings"
	"testing"

	"cabochon/api"
	"cabochon/snap"
)

// named is a file of that name at the schema x of some, which is alone.
func named(name string) api.File { return file(name, 5, "{a = 5}") }

// rights is snapshots that are right.
func rights() map[string]api.Snap {
	all := map[string]api.Snap{
		"nothing":                {},
		"no files":               snapshot(some()),
		"files of all kinds":     held(),
		"entries":                hosted(),
		"a file alone":           snapshot(some(), named("f")),
		"files of one schema":    snapshot(some(), named("f"), named("g")),
		"the shortest name":      snapshot(some(), named("a")),
		"the longest name":       snapshot(some(), named("abcdefgh_0123456")),
		"names by their bytes":   snapshot(some(), named("f"), named("f0"), named("f9z"), named("f_"), named("fa"), named("g")),
		"the last schema":        snapshot(alike(12), file("f", 11, "{a = true}")),
		"at the middle of three": snapshot(some(), file("f", 1, "{a = 3, b = true}")),
		"no parts":               snapshot(row(), file("f", 0, "{}", left(0, place(0), "false"), left(2, place(0), "true"))),
	}
	var most []api.File
	for i := range api.MaxFiles {
		most = append(most, named("f"+strconv.Itoa(10+i)))
	}
	all["as many files as may be"] = snapshot(some(), most...)
	return all
}

// wrongs is snapshots that are not right.
func wrongs() map[string]api.Snap {
	all := map[string]api.Snap{
		"no name":                      snapshot(some(), named("")),
		"a name with a capital":        snapshot(some(), named("F")),
		"a name with a digit ahead":    snapshot(some(), named("0f")),
		"a name with a line ahead":     snapshot(some(), named("_f")),
		"a name with a blank":          snapshot(some(), named("f g")),
		"a name that is too long":      snapshot(some(), named("abcdefgh_01234567")),
		"a wrong name behind":          snapshot(some(), named("f"), named("g-")),
		"a wrong name between":         snapshot(some(), named("f"), named("f:"), named("g")),
		"names that fall":              snapshot(some(), named("g"), named("f")),
		"names that fall at the end":   snapshot(some(), named("f"), named("h"), named("g")),
		"names that fall at the front": snapshot(some(), named("g"), named("f"), named("h")),
		"a name that begins another":   snapshot(some(), named("fa"), named("f")),
		"a name twice":                 snapshot(some(), named("f"), named("f")),
		"a name twice, apart":          snapshot(some(), named("f"), named("g"), named("f")),
		"a schema below none":          snapshot(some(), file("f", -1, "{a = 5}")),
		"no such schema":               snapshot(some(), file("f", 6, "{a = 5}")),
		"no schema at all":             snapshot(api.Registry{}, file("f", 0, "{}")),
		"far from any schema":          snapshot(some(), file("f", api.MaxInt, "{a = 5}")),
		"far below any schema":         snapshot(some(), file("f", api.MinInt, "{a = 5}")),
		"a zero file":                  snapshot(some(), api.File{}),
		"a zero state":                 snapshot(some(), api.File{Name: "f", Schema: 5}),
		"no document of the schema":    snapshot(some(), file("f", 5, "{a = 10}")),
		"a document of another schema": snapshot(some(), file("f", 1, "{a = 3}")),
		"a state of another schema":    snapshot(some(), file("f", 5, "{a = 3}", left(0, place(0), "true"))),
		"less left out":                snapshot(some(), file("f", 0, "{a = 3}")),
		"more left out":                snapshot(some(), file("f", 1, "{a = 3, b = true}", left(0, place(0), "true"))),
		"left out of another type":     snapshot(some(), file("f", 0, "{a = 3}", left(0, place(0), "5"))),
		"left out at another step":     snapshot(some(), file("f", 0, "{a = 3}", left(0, place(1), "true"))),
		"a wrong one behind":           with(held(), 3, 4, file("m", 5, "{b = 5}")),
		"a wrong one between":          with(held(), 1, 2, file("g", 2, "{b = true, c = 10}")),
		"a wrong one ahead":            with(held(), 0, 1, file("f", 0, "{a = 3}")),
		"no document":                  snapshot(some(), api.File{Name: "f", Schema: 5, State: api.State{Doc: api.Doc{Kind: api.DRec, Keys: []string{"a"}}}}),
	}
	var most []api.File
	for i := range api.MaxFiles + 1 {
		most = append(most, named("f"+strconv.Itoa(10+i)))
	}
	all["too many files"] = snapshot(some(), most...)
	for i, r := range wrong() {
		all["wrong registry "+strconv.Itoa(i)] = snapshot(r)
		all["wrong registry "+strconv.Itoa(i)+", and a file"] = snapshot(r, file("f", 0, "{a = true}"))
	}
	return all
}

func TestP13_1Right(t *testing.T) {
	for what, s := range rights() {
		if !snap.Right(s) || !snap.Right(roomy(s)) {
			t.Errorf("%s: not right", what)
		}
	}
	for what, s := range wrongs() {
		if snap.Right(s) || snap.Right(roomy(s)) {
			t.Errorf("%s: right", what)
		}
	}
}

// Rows that are none and empty ones are the same.
func TestP13_1RightOfEmptyRows(t *testing.T) {
	s := held()
	s.Files[0].State.Doc.Kids[0].Keys, s.Files[0].State.Doc.Kids[0].Kids, s.Files[0].State.Res[0].At = []string{}, []api.Doc{}, []string{}
	s.Files[1].State.Res, s.Reg.Joins[0].Lens[0].Subs = []api.Res{}, []api.Lens{}
	if !snap.Right(s) || !snap.Right(api.Snap{Reg: api.Registry{Schemas: []api.Named{}, Joins: []api.Join{}}, Files: []api.File{}}) {
		t.Error("not right")
	}
}

func TestP13_1Find(t *testing.T) {
	for what, s := range rights() {
		for i, f := range s.Files {
			if got := snap.Find(s, f.Name); got != i {
				t.Errorf("%s: %s at %d, not at %d", what, f.Name, got, i)
			}
			for _, other := range []string{f.Name + "0", f.Name + "_", f.Name[1:], f.Name[:len(f.Name)-1], strings.ToUpper(f.Name), f.Name + "\x00", "", "a0", "z", "\xff"} {
				wanted := slices.IndexFunc(s.Files, func(f api.File) bool { return f.Name == other })
				if got := snap.Find(s, other); got != wanted {
					t.Errorf("%s: %q at %d, not at %d", what, other, got, wanted)
				}
			}
		}
	}
	if got := snap.Find(api.Snap{}, "f"); got != -1 {
		t.Errorf("of nothing: %d", got)
	}
	if got := snap.Find(snapshot(some()), ""); got != -1 {
		t.Errorf("of no name: %d", got)
	}
}

func TestP13_1FindOfWrongOnes(t *testing.T) {
	for what, s := range wrongs() {
		for _, name := range []string{"f", "g", "h", "m", "f10", "", "F"} {
			if got := snap.Find(s, name); got != -1 {
				t.Errorf("%s: %q at %d", what, name, got)
			}
		}
	}
}

// Of a snapshot that is not right each call tells a zero one, and ErrArg, ahead of all else.
func TestP13WrongSnapshots(t *testing.T) {
	for what, s := range wrongs() {
		for _, name := range []string{"f", "g", "z", "F"} {
			for _, schema := range []string{"s", "x", "z", "S"} {
				none := wantBoth(t, what, api.Snap{}, api.ErrArg)
				none(snap.Write(s, name, schema, val("{a = 5}")))
				none(snap.Write(s, name, schema, api.Doc{}))
				none(snap.Drop(s, name))
				none(snap.Migrate(s, name, schema))
				none(snap.Declare(s, schema, typ("{a: bool}")))
				none(snap.Declare(s, schema, typ("bool")))
				none(snap.Join(s, schema, name, nil))
				none(snap.Join(s, "s", "v", lenses("rename a to b;")))
				none(snap.Join(s, "x", "s", nil))
				wantBoth(t, what, api.Doc{}, api.ErrArg)(snap.Read(s, name, schema))
			}
		}
	}
}
