package trans_test

import (
	"testing"

	"cabochon/api"
	"cabochon/trans"
	"cabochon/valid"
)

func TestP11_3Whole(t *testing.T) {
	for what, c := range map[string]struct {
		r     api.Registry
		k     int
		s     api.State
		whole bool
	}{
		"what is needed":              {some(), 0, state("{a = 3}", left(0, place(0), "false")), true},
		"another value there":         {some(), 0, state("{a = 3}", left(0, place(0), "true")), true},
		"nothing":                     {some(), 0, state("{a = 3}"), false},
		"of no such type":             {some(), 0, state("{a = 3}", left(0, place(0), "7")), false},
		"at another step":             {some(), 0, state("{a = 3}", left(0, place(1), "false")), false},
		"at a step within":            {some(), 0, state("{a = 3}", left(0, place(0, 0), "false")), false},
		"at a key":                    {some(), 0, state("{a = 3}", left(0, place(0), "false", "")), false},
		"at another join":             {some(), 0, state("{a = 3}", left(1, place(0), "false")), false},
		"at another component's join": {some(), 0, state("{a = 3}", left(0, place(0), "false"), left(2, place(0), "false")), false},
		"more at no join":             {some(), 0, state("{a = 3}", left(0, place(0), "false"), left(3, place(0), "1")), false},
		"more ahead":                  {some(), 0, state("{a = 3}", left(-1, place(0), "1"), left(0, place(0), "false")), false},
		"twice":                       {some(), 0, state("{a = 3}", left(0, place(0), "false"), left(0, place(0), "false")), false},
		"another type":                {some(), 0, state("{a = 10}", left(0, place(0), "false")), false},
		"no document":                 {some(), 0, api.State{}, false},
		"no schema":                   {some(), 6, state("{a = 3}"), false},
		"a schema below none":         {some(), -1, state("{a = 3}"), false},

		"at the other end":            {some(), 1, state("{a = 3, b = true}"), true},
		"in vain":                     {some(), 1, state("{a = 3, b = true}", left(0, place(0), "true")), false},
		"in vain, far":                {some(), 2, state("{b = true, c = 3}", left(0, place(0), "true")), false},
		"far":                         {some(), 2, state("{b = true, c = 3}"), true},
		"where a field moves":         {some(), 3, state("{r = {x = true}}"), true},
		"where a field moves, back":   {some(), 4, state("{r = {}, x = true}"), true},
		"where it moves, and more":    {some(), 4, state("{r = {}, x = true}", left(2, place(0), "true")), false},
		"alone":                       {some(), 5, state("{a = 3}"), true},
		"alone, and more":             {some(), 5, state("{a = 3}", left(0, place(0), "false")), false},
		"alone, of another type":      {some(), 5, state("{b = 3}"), false},
		"the first of a row":          {row(), 0, state("{}", left(0, place(0), "false"), left(2, place(0), "true")), true},
		"the first of a row, less":    {row(), 0, state("{}", left(0, place(0), "false")), false},
		"the first of a row, lesser":  {row(), 0, state("{}", left(2, place(0), "false")), false},
		"the first of a row, more":    {row(), 0, state("{}", left(0, place(0), "false"), left(1, place(0), "true"), left(2, place(0), "true")), false},
		"the last of a row":           {row(), 3, state("{y = true}", left(1, place(0), "false")), true},
		"the last of a row, more":     {row(), 3, state("{y = true}", left(0, place(0), "false"), left(1, place(0), "false")), false},
		"entries":                     {hosts(), 0, state(`{h = <"a": {port = 1}, "b": {port = 2}>, n = 3}`, left(0, place(0, 0), "true", "a"), left(0, place(0, 0), "false", "b"), left(1, place(0), `"x"`)), true},
		"entries, one less":           {hosts(), 0, state(`{h = <"a": {port = 1}, "b": {port = 2}>, n = 3}`, left(0, place(0, 0), "false", "b"), left(1, place(0), `"x"`)), false},
		"entries, one that is not":    {hosts(), 0, state(`{h = <"a": {port = 1}>, n = 3}`, left(0, place(0, 0), "true", "a"), left(0, place(0, 0), "false", "b"), left(1, place(0), `"x"`)), false},
		"entries, one as another one": {hosts(), 0, state(`{h = <"a": {port = 1}>, n = 3}`, left(0, place(0, 0), "true", "b"), left(1, place(0), `"x"`)), false},
		"entries, in the middle":      {hosts(), 1, state(`{h = <"a": {port = 1, tls = true}>}`, left(0, place(1), "1"), left(1, place(0), `"x"`)), true},
		"no entries":                  {hosts(), 0, state(`{h = <>, n = 3}`, left(1, place(0), `"x"`)), true},
	} {
		if got := trans.Whole(c.r, c.k, c.s); got != c.whole {
			t.Errorf("%s: %v: %s", what, got, show(c.s))
		}
		c.s = roomy(c.s)
		if got := trans.Whole(c.r, c.k, c.s); got != c.whole {
			t.Errorf("%s, with spare room: %v: %s", what, got, show(c.s))
		}
	}
}

// Rows that are none and empty ones are the same.
func TestP11_3WholeWithEmptyRows(t *testing.T) {
	s := state("{a = 3}", left(0, place(0), "false"))
	s.Doc.Kids[0].Keys, s.Doc.Kids[0].Kids, s.Res[0].At, s.Res[0].Doc.Kids = []string{}, []api.Doc{}, []string{}, []api.Doc{}
	if !trans.Whole(some(), 0, s) || !trans.Whole(some(), 5, api.State{Doc: s.Doc, Res: []api.Res{}}) || !trans.Whole(some(), 5, api.State{Doc: s.Doc}) {
		t.Error("not whole")
	}
}

func TestP11_3WholeAtTheLimit(t *testing.T) {
	for n, whole := range map[int]bool{0: true, 128: true, 129: false} {
		s := api.State{Doc: piled(0, n)}
		for i := range n {
			s.Res = append(s.Res, left(0, place(0, 0), "false", key(i)))
		}
		for i := range n {
			s.Res = append(s.Res, left(1, place(0, 0), "true", key(i)))
		}
		if got := trans.Whole(pile(), 0, s); got != whole {
			t.Errorf("%d entries: %v", n, got)
		}
		mid := api.State{Doc: piled(1, n), Res: s.Res[n:]}
		if got := trans.Whole(pile(), 1, mid); got != whole {
			t.Errorf("%d entries, in the middle: %v", n, got)
		}
	}
}

// Start is Fill of the document alone.
func TestP11_3Start(t *testing.T) {
	for _, x := range randoms(21, 150) {
		for k := range x.r.Schemas {
			made, err := trans.Fill(x.r, k, api.State{Doc: x.s.Doc})
			wantBoth(t, show(x.s.Doc), made, err)(trans.Start(x.r, k, x.s.Doc))
			if is := valid.Is(x.r.Schemas[k].Type, x.s.Doc); is != (err == api.OK) {
				t.Errorf("%d, of %d: %v", k, x.k, err)
			}
		}
	}
}
