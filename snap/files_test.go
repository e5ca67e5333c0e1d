package snap_test

import (
	"testing"

	"cabochon/api"
	"cabochon/snap"
)

func TestP13_3Read(t *testing.T) {
	for what, c := range map[string]struct {
		s                    api.Snap
		name, schema, wanted string
	}{
		"by its own schema":        {held(), "f", "s", "{a = 3}"},
		"by the next one":          {held(), "f", "t", "{a = 3, b = true}"},
		"by one that is farther":   {held(), "f", "u", "{b = true, c = 3}"},
		"from one that is farther": {held(), "g", "s", "{a = 4}"},
		"between":                  {held(), "g", "t", "{a = 4, b = true}"},
		"where it is":              {held(), "g", "u", "{b = true, c = 4}"},
		"where a field moves":      {held(), "h", "v", "{r = {x = true}}"},
		"where it has moved":       {held(), "h", "w", "{r = {}, x = true}"},
		"alone":                    {held(), "m", "x", "{a = 5}"},
		"entries, ahead":           {hosted(), "f", "s", `{h = <"a": {port = 1}, "b": {port = 2}>, n = 3}`},
		"entries":                  {hosted(), "f", "t", `{h = <"a": {port = 1, tls = false}, "b": {port = 2, tls = false}>}`},
		"entries, behind":          {hosted(), "f", "u", `{h = <"a": {tls = false}, "b": {tls = false}>, m = "x"}`},
	} {
		wantBoth(t, what, val(c.wanted), api.OK)(snap.Read(c.s, c.name, c.schema))
		wantBoth(t, what+", with spare room", val(c.wanted), api.OK)(snap.Read(roomy(c.s), c.name, c.schema))
	}
}

// refused is what is told of a file and a schema that do not go together, or are not there.
var refused = map[string]struct {
	name, schema string
	wanted       api.Errno
}{
	"no such file":                        {"z", "s", api.ErrNone},
	"no such file, ahead":                 {"a", "s", api.ErrNone},
	"no such file, between":               {"fa", "s", api.ErrNone},
	"no name":                             {"", "s", api.ErrNone},
	"a name that is none":                 {"F", "s", api.ErrNone},
	"no such schema":                      {"f", "z", api.ErrNone},
	"no name of a schema":                 {"f", "", api.ErrNone},
	"a schema's name that is none":        {"f", "S", api.ErrNone},
	"neither":                             {"z", "z", api.ErrNone},
	"a file's name as a schema's":         {"f", "f", api.ErrNone},
	"a schema's name as a file's":         {"s", "s", api.ErrNone},
	"not joined":                          {"f", "x", api.ErrNoPath},
	"not joined, to":                      {"m", "s", api.ErrNoPath},
	"of another component":                {"f", "v", api.ErrNoPath},
	"of another component, the other way": {"h", "u", api.ErrNoPath},
	"of another component, farther":       {"g", "w", api.ErrNoPath},
	"alone":                               {"m", "w", api.ErrNoPath},
}

func TestP13_3Refused(t *testing.T) {
	for what, c := range refused {
		wantBoth(t, "Read: "+what, api.Doc{}, c.wanted)(snap.Read(held(), c.name, c.schema))
		wantBoth(t, "Migrate: "+what, api.Snap{}, c.wanted)(snap.Migrate(held(), c.name, c.schema))
		if s := snapshot(some()); c.name != "" {
			wantBoth(t, "Read of no files: "+what, api.Doc{}, api.ErrNone)(snap.Read(s, c.name, c.schema))
			wantBoth(t, "Migrate of no files: "+what, api.Snap{}, api.ErrNone)(snap.Migrate(s, c.name, c.schema))
		}
	}
	wantBoth(t, "Read of nothing", api.Doc{}, api.ErrNone)(snap.Read(api.Snap{}, "f", "s"))
	wantBoth(t, "Migrate of nothing", api.Snap{}, api.ErrNone)(snap.Migrate(api.Snap{}, "f", "s"))
	wantBoth(t, "Drop of nothing", api.Snap{}, api.ErrNone)(snap.Drop(api.Snap{}, "f"))
}

func TestP13_3Drop(t *testing.T) {
	for i, f := range held().Files {
		wantBoth(t, f.Name, with(held(), i, i+1), api.OK)(snap.Drop(held(), f.Name))
		wantBoth(t, f.Name+", with spare room", with(held(), i, i+1), api.OK)(snap.Drop(roomy(held()), f.Name))
	}
	for _, name := range []string{"", "F", "a", "fa", "z", "s", "f\x00"} {
		wantBoth(t, name, api.Snap{}, api.ErrNone)(snap.Drop(held(), name))
	}
	for i, f := range full().Files {
		wantBoth(t, f.Name, with(full(), i, i+1), api.OK)(snap.Drop(full(), f.Name))
	}
	wantBoth(t, "the only one", snapshot(hosts()), api.OK)(snap.Drop(hosted(), "f"))
	s := held()
	for _, f := range held().Files {
		s, _ = snap.Drop(s, f.Name)
	}
	want(t, "all of them", s, snapshot(some()))
}

func TestP13_3Migrate(t *testing.T) {
	for what, c := range map[string]struct {
		s            api.Snap
		name, schema string
		at           int
		wanted       api.File
	}{
		"to its own schema":        {held(), "f", "s", 0, file("f", 0, "{a = 3}", left(0, place(0), "true"))},
		"to the next one":          {held(), "f", "t", 0, file("f", 1, "{a = 3, b = true}")},
		"to one that is farther":   {held(), "f", "u", 0, file("f", 2, "{b = true, c = 3}")},
		"from one that is farther": {held(), "g", "s", 1, file("g", 0, "{a = 4}", left(0, place(0), "true"))},
		"between":                  {held(), "g", "t", 1, file("g", 1, "{a = 4, b = true}")},
		"where a field moves":      {held(), "h", "v", 2, file("h", 3, "{r = {x = true}}")},
		"alone":                    {held(), "m", "x", 3, file("m", 5, "{a = 5}")},
		"entries, ahead":           {hosted(), "f", "s", 0, file("f", 0, `{h = <"a": {port = 1}, "b": {port = 2}>, n = 3}`, left(0, place(0, 0), "false", "a"), left(0, place(0, 0), "false", "b"), left(1, place(0), `"x"`))},
		"entries, behind":          {hosted(), "f", "u", 0, file("f", 2, `{h = <"a": {tls = false}, "b": {tls = false}>, m = "x"}`, left(0, place(1), "3"), left(1, place(1, 0), "1", "a"), left(1, place(1, 0), "2", "b"))},
		"in a full one":            {full(), "f25", "x", 15, file("f25", 5, "{a = 5}")},
	} {
		wanted := with(c.s, c.at, c.at+1, c.wanted)
		wantBoth(t, what, wanted, api.OK)(snap.Migrate(c.s, c.name, c.schema))
		wantBoth(t, what+", with spare room", wanted, api.OK)(snap.Migrate(roomy(c.s), c.name, c.schema))
	}
}
