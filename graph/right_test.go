package graph_test

import (
	"math/rand/v2"
	"slices"
	"strconv"
	"strings"
	"testing"

	"cabochon/api"
	"cabochon/graph"
)

// wrong is registries that are not right, each of them by one part alone.
func wrong() map[string]api.Registry {
	all := map[string]api.Registry{
		"one schema too many": alike(13),
		"far too many":        alike(40),
		"a join of none":      {Joins: make([]api.Join, 1)},
		"two joins of none":   {Joins: make([]api.Join, 2)},

		"to itself":           alike(1, join(0, 0)),
		"to itself, the last": alike(3, join(0, 1), join(2, 2)),
		"twice":               alike(2, join(0, 1), join(0, 1)),
		"there and back":      alike(2, join(0, 1), join(1, 0)),
		"a ring":              alike(3, join(0, 1), join(1, 2), join(2, 0)),
		"a ring either way":   alike(4, join(1, 0), join(1, 2), join(3, 2), join(0, 3)),
		"a ring, and more":    alike(5, join(0, 1), join(1, 2), join(0, 2), join(3, 4)),
		"a ring of all":       alike(12, append(chain(), join(11, 0))...),
		"too many steps":      alike(2, join(0, 1, append(most(), most()[:2]...)...)),
	}
	change := func(what string, do func(r *api.Registry)) {
		r := some()
		do(&r)
		all[what] = r
	}
	for k := range some().Schemas {
		for _, name := range []string{"", "S", "a-", strings.Repeat("s", 17)} {
			change("name "+name+" of "+strconv.Itoa(k), func(r *api.Registry) { r.Schemas[k].Name = name })
		}
		for other := range k {
			change("one name: "+strconv.Itoa(other)+", "+strconv.Itoa(k), func(r *api.Registry) { r.Schemas[k].Name = r.Schemas[other].Name })
		}
		for what, x := range noRecords() {
			change("of a type that is "+what+": "+strconv.Itoa(k), func(r *api.Registry) { r.Schemas[k].Type = x })
		}
	}
	for what, x := range noRecords() {
		all["alone, "+what] = api.Registry{Schemas: []api.Named{{Name: "s", Type: x}}}
	}
	for i := range some().Joins {
		what := "join " + strconv.Itoa(i) + ": "
		for _, k := range []int{-1, 6, api.MinInt, api.MaxInt} {
			change(what+"from "+strconv.Itoa(k), func(r *api.Registry) { r.Joins[i].From = k })
			change(what+"to "+strconv.Itoa(k), func(r *api.Registry) { r.Joins[i].To = k })
			change(what+"from and to "+strconv.Itoa(k), func(r *api.Registry) { r.Joins[i] = join(k, k) })
		}
		for _, l := range []string{"", "wrap z;", "add z: bool = true;"} {
			change(what+l, func(r *api.Registry) { r.Joins[i].Lens = lenses(l) })
		}
		change(what+"a step more", func(r *api.Registry) { r.Joins[i].Lens = append(r.Joins[i].Lens, lenses("add z: bool = true;")...) })
		change(what+"a step of no kind", func(r *api.Registry) { r.Joins[i].Lens = append(r.Joins[i].Lens, api.Lens{}) })
		change(what+"the other way", func(r *api.Registry) { r.Joins[i].From, r.Joins[i].To = r.Joins[i].To, r.Joins[i].From })
	}
	return all
}

// noRecords is types that no schema may have.
func noRecords() map[string]api.Type {
	return map[string]api.Type{
		"none": {}, "a bool": typ("bool"), "a dictionary": typ("dict (0 .. 1) of {}"),
		"a record with Lo": {Kind: api.TRec, Lo: 1}, "too wide": wide(33), "of a field of none": {Kind: api.TRec, Fields: []api.Field{{Name: "a"}}},
	}
}

// chain is joins of as many schemas as may be, not all of them the same way.
func chain() []api.Join {
	return []api.Join{join(0, 1), join(2, 1), join(2, 3), join(3, 4), join(4, 5), join(6, 5), join(7, 6), join(7, 8), join(8, 9), join(9, 10), join(11, 10)}
}

// most is a lens of as many steps as may be, which changes nothing.
func most() []api.Lens { return lenses(strings.Repeat("rename a to b; rename b to a;", 32)) }

func TestP10_2Right(t *testing.T) {
	for what, r := range map[string]api.Registry{
		"none": {}, "empty": {Schemas: []api.Named{}, Joins: []api.Join{}}, "some": some(), "one": registry("s: {}"),
		"a long name": registry("a" + strings.Repeat("_", 15) + ": {}"), "a wide type": {Schemas: []api.Named{{Name: "s", Type: wide(32)}}},
		"as many as may be": alike(12), "all joined": alike(12, chain()...), "as many steps as may be": alike(2, join(1, 0, most()...)),
	} {
		if !graph.Right(r) || !saidRight(r) {
			t.Errorf("%s: not right", what)
		}
	}
	for what, r := range wrong() {
		if graph.Right(r) || saidRight(r) {
			t.Errorf("%s: right", what)
		}
	}
}

// wantRefused asks that all calls but Right, Same and Copy refuse r, whatever else they are given.
func wantRefused(t *testing.T, what string, r api.Registry) {
	t.Helper()
	names := append(namesOf(r), "s", "", "zzz")
	for _, name := range names {
		if got := graph.Find(r, name); got != -1 {
			t.Errorf("%s: %q found at %d", what, name, got)
		}
	}
	none, more, last := api.Registry{}, "zzz", len(r.Schemas)-1
	wantBoth(t, what, none, api.ErrArg)(graph.AddSchema(r, more, typ("{a: bool}")))
	wantBoth(t, what, none, api.ErrArg)(graph.AddSchema(r, names[0], typ("{a: bool}")))
	wantBoth(t, what, none, api.ErrArg)(graph.AddSchema(r, "", api.Type{}))
	wantBoth(t, what, none, api.ErrArg)(graph.AddJoin(r, more, more, nil))
	wantBoth(t, what, none, api.ErrArg)(graph.AddJoin(r, names[0], names[max(last, 0)], nil))
	wantBoth(t, what, none, api.ErrArg)(graph.AddJoin(r, names[0], names[0], make([]api.Lens, 65)))
	for _, k := range []int{-1, 0, 1, 5, last, last + 1} {
		want(t, what, graph.Around(r, k), hops())
		want(t, what, graph.Component(r, k), []int{})
		for _, to := range []int{-1, 0, 1, 5, last, last + 1} {
			wantBoth(t, what, hops(), api.ErrArg)(graph.Path(r, k, to))
		}
	}
	for _, other := range []api.Registry{{}, r, some(), alike(12), registry("s: {other: bool}")} {
		wantBoth(t, what+", united", none, api.ErrArg)(graph.Union(r, other))
		wantBoth(t, what+", what is united", none, api.ErrArg)(graph.Union(other, r))
	}
}

func TestP10_2WrongOnesAreRefused(t *testing.T) {
	for what, r := range wrong() {
		wantRefused(t, what, r)
	}
}

// changed is r with something of it another.
func changed(r *rand.Rand, x api.Registry) api.Registry {
	x.Schemas, x.Joins = slices.Clone(x.Schemas), slices.Clone(x.Joins)
	for i := range x.Joins {
		x.Joins[i].Lens = slices.Clone(x.Joins[i].Lens)
	}
	if len(x.Schemas) == 0 {
		return api.Registry{Joins: make([]api.Join, r.IntN(2))}
	}
	s := &x.Schemas[r.IntN(len(x.Schemas))]
	j := &api.Join{}
	if len(x.Joins) > 0 {
		j = &x.Joins[r.IntN(len(x.Joins))]
	}
	switch r.IntN(10) {
	case 0:
		s.Name = any1(r, x.Schemas).Name
	case 1:
		s.Name = any1(r, []string{"", "z", "A"})
	case 2:
		s.Type = any1(r, x.Schemas).Type
	case 3:
		s.Type = any1(r, []api.Type{{}, typ("{a: bool}"), typ("bool")})
	case 4:
		j.From = r.IntN(len(x.Schemas)+2) - 1
	case 5:
		j.To = r.IntN(len(x.Schemas)+2) - 1
	case 6:
		j.From, j.To = j.To, j.From
	case 7:
		j.Lens = any1(r, append(x.Joins, api.Join{})).Lens
	case 8:
		x.Joins = append(x.Joins, any1(r, append(x.Joins, join(0, r.IntN(len(x.Schemas))))))
	case 9:
		x = chosen(x, r.Perm(len(x.Schemas)), r.Perm(len(x.Joins)))
	}
	return x
}

func TestP10_2AnyOne(t *testing.T) {
	r := chance(3, 4)
	right, not := 0, 0
	for _, x := range randoms(1, 1500) {
		if !graph.Right(x) || !saidRight(x) {
			t.Errorf("not right: %s", show(x))
		}
		x = changed(r, x)
		is := saidRight(x)
		if graph.Right(x) != is {
			t.Errorf("right should be %v: %s", is, show(x))
		}
		if is {
			right++
			continue
		}
		if not++; not%10 == 0 {
			wantRefused(t, show(x), x)
		}
	}
	if right < 300 || not < 300 {
		t.Errorf("%d right ones, %d others", right, not)
	}
}

// What the calls themselves make, one by one, of none.
func TestP10_2RightIsWhatIsMade(t *testing.T) {
	r := chance(5, 6)
	for _, x := range randoms(2, 600) {
		if r.IntN(2) == 0 {
			x = changed(r, x)
		}
		made, is := again(x)
		if graph.Right(x) != is {
			t.Errorf("made, %v: %s", is, show(x))
		}
		if is {
			want(t, "made again", made, x)
		}
	}
}

// again is what the calls make of none, one by one, until one tells an error.
func again(x api.Registry) (api.Registry, bool) {
	var made api.Registry
	err := api.OK
	for _, s := range x.Schemas {
		if made, err = graph.AddSchema(made, s.Name, s.Type); err != api.OK {
			return made, false
		}
	}
	for _, j := range x.Joins {
		if min(j.From, j.To) < 0 || max(j.From, j.To) >= len(x.Schemas) {
			return made, false
		}
		if made, err = graph.AddJoin(made, x.Schemas[j.From].Name, x.Schemas[j.To].Name, j.Lens); err != api.OK {
			return made, false
		}
	}
	return made, true
}
