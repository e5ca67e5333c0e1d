package snap_test

import (
	"strconv"
	"testing"

	"cabochon/api"
	"cabochon/snap"
)

func TestP13_2WriteNewFiles(t *testing.T) {
	for what, c := range map[string]struct {
		name, schema, d string
		at              int
		wanted          api.File
	}{
		"ahead of all":          {"a", "x", "{a = 7}", 0, file("a", 5, "{a = 7}")},
		"behind the first":      {"fa", "x", "{a = 7}", 1, file("fa", 5, "{a = 7}")},
		"between":               {"k", "x", "{a = 7}", 3, file("k", 5, "{a = 7}")},
		"behind all":            {"z", "x", "{a = 7}", 4, file("z", 5, "{a = 7}")},
		"with what is left out": {"z", "s", "{a = 7}", 4, file("z", 0, "{a = 7}", left(0, place(0), "false"))},
		"with nothing left out": {"z", "t", "{a = 7, b = true}", 4, file("z", 1, "{a = 7, b = true}")},
		"at the other end":      {"z", "u", "{b = true, c = 7}", 4, file("z", 2, "{b = true, c = 7}")},
		"elsewhere":             {"b", "v", "{r = {x = false}}", 0, file("b", 3, "{r = {x = false}}")},
		"of the shortest name":  {"n", "w", "{r = {}, x = false}", 4, file("n", 4, "{r = {}, x = false}")},
		"of the longest name":   {"f123456789012345", "x", "{a = 0}", 1, file("f123456789012345", 5, "{a = 0}")},
	} {
		wanted := with(held(), c.at, c.at, c.wanted)
		wantBoth(t, what, wanted, api.OK)(snap.Write(held(), c.name, c.schema, val(c.d)))
		wantBoth(t, what+", alone", snapshot(some(), c.wanted), api.OK)(snap.Write(snapshot(some()), c.name, c.schema, val(c.d)))
		wantBoth(t, what+", with spare room", wanted, api.OK)(snap.Write(roomy(held()), c.name, c.schema, roomy(val(c.d))))
	}
}

func TestP13_2WriteOver(t *testing.T) {
	row := snapshot(row(), file("f", 0, "{}", left(0, place(0), "false"), left(2, place(0), "false")))
	for what, c := range map[string]struct {
		s               api.Snap
		name, schema, d string
		at              int
		wanted          api.File
	}{
		"by its own schema":             {held(), "f", "s", "{a = 4}", 0, file("f", 0, "{a = 4}", left(0, place(0), "true"))},
		"as it was":                     {held(), "f", "s", "{a = 3}", 0, file("f", 0, "{a = 3}", left(0, place(0), "true"))},
		"by the next one":               {held(), "f", "t", "{a = 4, b = false}", 0, file("f", 1, "{a = 4, b = false}")},
		"by one that is farther":        {held(), "f", "u", "{b = false, c = 4}", 0, file("f", 2, "{b = false, c = 4}")},
		"from one that is farther":      {held(), "g", "s", "{a = 9}", 1, file("g", 0, "{a = 9}", left(0, place(0), "true"))},
		"from the next one":             {held(), "g", "t", "{a = 9, b = false}", 1, file("g", 1, "{a = 9, b = false}")},
		"by the other one of two":       {held(), "h", "v", "{r = {x = false}}", 2, file("h", 3, "{r = {x = false}}")},
		"by one that is not joined":     {held(), "f", "x", "{a = 4}", 0, file("f", 5, "{a = 4}")},
		"by one that leaves out":        {held(), "m", "s", "{a = 4}", 3, file("m", 0, "{a = 4}", left(0, place(0), "false"))},
		"by one of another component":   {held(), "h", "s", "{a = 4}", 2, file("h", 0, "{a = 4}", left(0, place(0), "false"))},
		"by none of its component":      {held(), "f", "w", "{r = {}, x = false}", 0, file("f", 4, "{r = {}, x = false}")},
		"the last, alone":               {held(), "m", "x", "{a = 4}", 3, file("m", 5, "{a = 4}")},
		"at the front of a row":         {row, "f", "s", "{}", 0, file("f", 0, "{}", left(0, place(0), "false"), left(2, place(0), "false"))},
		"behind it":                     {row, "f", "t", "{x = true}", 0, file("f", 1, "{x = true}", left(0, place(0), "false"))},
		"one more behind":               {row, "f", "u", "{x = true, y = true}", 0, file("f", 2, "{x = true, y = true}")},
		"at the end":                    {row, "f", "v", "{y = true}", 0, file("f", 3, "{y = true}", left(1, place(0), "false"))},
		"entries":                       {hosted(), "f", "s", `{h = <"a": {port = 5}, "b": {port = 6}>, n = 4}`, 0, file("f", 0, `{h = <"a": {port = 5}, "b": {port = 6}>, n = 4}`, left(0, place(0, 0), "false", "a"), left(0, place(0, 0), "false", "b"), left(1, place(0), `"x"`))},
		"entries, some new, some gone":  {hosted(), "f", "s", `{h = <"": {port = 4}, "a": {port = 5}, "c": {port = 6}>, n = 4}`, 0, file("f", 0, `{h = <"": {port = 4}, "a": {port = 5}, "c": {port = 6}>, n = 4}`, left(0, place(0, 0), "true", ""), left(0, place(0, 0), "false", "a"), left(0, place(0, 0), "true", "c"), left(1, place(0), `"x"`))},
		"all entries gone":              {hosted(), "f", "s", `{h = <>, n = 4}`, 0, file("f", 0, `{h = <>, n = 4}`, left(1, place(0), `"x"`))},
		"entries, by the same schema":   {hosted(), "f", "t", `{h = <"b": {port = 5, tls = true}, "c": {port = 6, tls = true}>}`, 0, file("f", 1, `{h = <"b": {port = 5, tls = true}, "c": {port = 6, tls = true}>}`, left(0, place(1), "3"), left(1, place(0), `"x"`))},
		"entries, by one behind it":     {hosted(), "f", "u", `{h = <"b": {tls = true}, "c": {tls = true}>, m = "y"}`, 0, file("f", 2, `{h = <"b": {tls = true}, "c": {tls = true}>, m = "y"}`, left(0, place(1), "3"), left(1, place(1, 0), "2", "b"), left(1, place(1, 0), "80", "c"))},
		"as it starts, where none sees": {hosted(), "f", "u", `{h = <"c": {tls = true}>, m = "y"}`, 0, file("f", 2, `{h = <"c": {tls = true}>, m = "y"}`, left(0, place(1), "3"), left(1, place(1, 0), "80", "c"))},
	} {
		wanted := with(c.s, c.at, c.at+1, c.wanted)
		wantBoth(t, what, wanted, api.OK)(snap.Write(c.s, c.name, c.schema, val(c.d)))
		wantBoth(t, what+", with spare room", wanted, api.OK)(snap.Write(roomy(c.s), c.name, c.schema, roomy(val(c.d))))
	}
}

// A file that was dropped is known no more.
func TestP13_2WriteWhatWasDropped(t *testing.T) {
	s, err := snap.Drop(held(), "f")
	wantBoth(t, "dropped", with(held(), 0, 1), api.OK)(s, err)
	wantBoth(t, "written again", with(held(), 0, 1, file("f", 0, "{a = 3}", left(0, place(0), "false"))), api.OK)(snap.Write(s, "f", "s", val("{a = 3}")))
}

// full is a snapshot of as many files as may be: f10, f11 and so on, at the schema x of some.
func full() api.Snap { return rights()["as many files as may be"] }

func TestP13_2WriteRefused(t *testing.T) {
	for what, c := range map[string]struct {
		s               api.Snap
		name, schema, d string
		wanted          api.Errno
	}{
		"no name":                               {held(), "", "s", "{a = 1}", api.ErrArg},
		"a capital":                             {held(), "F", "s", "{a = 1}", api.ErrArg},
		"a digit ahead":                         {held(), "1f", "s", "{a = 1}", api.ErrArg},
		"a line ahead":                          {held(), "_f", "s", "{a = 1}", api.ErrArg},
		"a blank":                               {held(), "f ", "s", "{a = 1}", api.ErrArg},
		"no letter":                             {held(), "f\xff", "s", "{a = 1}", api.ErrArg},
		"a name that is too long":               {held(), "f1234567890123456", "s", "{a = 1}", api.ErrArg},
		"no name, in a full one":                {full(), "", "x", "{a = 1}", api.ErrArg},
		"no name, and no schema":                {held(), "F", "z", "{a = 1}", api.ErrArg},
		"no name, and no such document":         {held(), "F", "s", "{a = 10}", api.ErrArg},
		"no schema":                             {held(), "f", "z", "{a = 1}", api.ErrNone},
		"no schema, and a new file":             {held(), "z", "z", "{a = 1}", api.ErrNone},
		"no schema of no name":                  {held(), "f", "", "{a = 1}", api.ErrNone},
		"no schema at all":                      {api.Snap{}, "f", "s", "{a = 1}", api.ErrNone},
		"no schema, in a full one":              {full(), "f00", "z", "{a = 1}", api.ErrNone},
		"no schema, and no such document":       {held(), "f", "z", "{a = 10}", api.ErrNone},
		"too many":                              {full(), "f00", "x", "{a = 1}", api.ErrFull},
		"too many, behind":                      {full(), "z", "s", "{a = 1}", api.ErrFull},
		"too many, and no such document":        {full(), "z", "s", "{a = 10}", api.ErrFull},
		"another type":                          {held(), "f", "s", "{a = 10}", api.ErrType},
		"another type, and a new file":          {held(), "z", "s", "{a = 10}", api.ErrType},
		"another type, in a full one":           {full(), "f10", "x", "{a = 10}", api.ErrType},
		"a field less":                          {held(), "f", "t", "{a = 1}", api.ErrType},
		"a field more":                          {held(), "f", "s", "{a = 1, b = true}", api.ErrType},
		"a document of the file's schema":       {held(), "f", "u", "{a = 1}", api.ErrType},
		"another type, of one that isn't there": {held(), "m", "v", "{a = 1}", api.ErrType},
	} {
		wantBoth(t, what, api.Snap{}, c.wanted)(snap.Write(c.s, c.name, c.schema, val(c.d)))
	}
	for _, d := range []api.Doc{{}, {Kind: -1}, {Kind: api.DRec, Keys: []string{"a"}}, {Kind: api.DRec, Keys: []string{"a"}, Kids: make([]api.Doc, 1)}, {Kind: api.DRec, Keys: []string{"a", "a"}, Kids: []api.Doc{val("1"), val("1")}}} {
		for _, name := range []string{"f", "g", "m", "z"} {
			wantBoth(t, "no document", api.Snap{}, api.ErrType)(snap.Write(held(), name, "s", d))
		}
	}
}

func TestP13_2WriteAsManyAsMayBe(t *testing.T) {
	s := snapshot(some())
	for i := range api.MaxFiles {
		var err api.Errno
		if s, err = snap.Write(s, "f"+strconv.Itoa(25-i), "x", val("{a = 5}")); err != api.OK || len(s.Files) != i+1 {
			t.Fatalf("file %d: %v", i, err)
		}
	}
	want(t, "all of them", s, full())
	for i := range api.MaxFiles {
		name := "f" + strconv.Itoa(10+i)
		wantBoth(t, "written again", with(full(), i, i+1, file(name, 5, "{a = 6}")), api.OK)(snap.Write(full(), name, "x", val("{a = 6}")))
	}
	dropped, _ := snap.Drop(full(), "f20")
	wantBoth(t, "one for another one", with(dropped, 0, 0, file("a", 5, "{a = 6}")), api.OK)(snap.Write(dropped, "a", "x", val("{a = 6}")))
}

func TestP13_2WriteAsMuchAsMayBe(t *testing.T) {
	at := func(n int, d string) api.File {
		f := api.File{Name: "f", State: api.State{Doc: piled(0, n)}}
		for edge := range 2 {
			for i := range n {
				f.State.Res = append(f.State.Res, left(edge, place(0, 0), []string{d, "false"}[edge], key(i)))
			}
		}
		return f
	}
	s := snapshot(pile())
	wantBoth(t, "256 left out", snapshot(pile(), at(128, "true")), api.OK)(snap.Write(s, "f", "s", piled(0, 128)))
	wantBoth(t, "258 left out", api.Snap{}, api.ErrArg)(snap.Write(s, "f", "s", piled(0, 129)))
	wantBoth(t, "258 left out in place of 256", api.Snap{}, api.ErrArg)(snap.Write(snapshot(pile(), at(128, "false")), "f", "s", piled(0, 129)))
	wantBoth(t, "256 left out in place of 256", snapshot(pile(), at(128, "false")), api.OK)(snap.Write(snapshot(pile(), at(128, "false")), "f", "s", piled(0, 128)))

	wide := snapshot(registry("s: {d: dict (0 .. 512) of {x: bool}}", "t: {d: dict (0 .. 512) of {a: bool, x: bool}}", "0 > 1: map d {add a: bool = true;};"))
	for n, wanted := range map[int]api.Errno{170: api.OK, 171: api.ErrFull} {
		if _, err := snap.Write(wide, "f", "s", rec("d", dict(n, val("{x = true}")))); err != wanted {
			t.Errorf("%d entries: %v", n, err)
		}
	}
}
