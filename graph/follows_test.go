package graph_test

import (
	"slices"
	"strconv"
	"testing"

	"cabochon/api"
	"cabochon/doc"
	"cabochon/graph"
	"cabochon/lens"
)

// path is the way between two schemas, and whether there is one.
func path(t *testing.T, r api.Registry, from, to int) ([]api.Hop, bool) {
	t.Helper()
	l, err := graph.Path(r, from, to)
	if err != api.OK && err != api.ErrNoPath {
		t.Errorf("%d to %d: %v of %s", from, to, err, show(r))
	}
	return l, err == api.OK
}

func TestP10_6OneWayAndBack(t *testing.T) {
	for _, r := range append(randoms(6, 120), forest(chance(9, 10)), some()) {
		for from := range r.Schemas {
			for to := range r.Schemas {
				there, is := path(t, r, from, to)
				again, isBack := path(t, r, to, from)
				slices.Reverse(again)
				for i := range again {
					again[i].Back = !again[i].Back
				}
				want(t, "back, of "+show(r), again, there)
				together := slices.Contains(graph.Component(r, from), to)
				if is != isBack || is != together {
					t.Errorf("%d to %d: %v, back %v, in one component %v", from, to, is, isBack, together)
				}
			}
		}
	}
}

// Each join on the way stands at its schema, and none comes twice; and the types lead from one to the other.
func TestP10_6TheWayLeadsThere(t *testing.T) {
	long := 0
	for _, r := range randoms(7, 150) {
		for from := range r.Schemas {
			for to := range r.Schemas {
				l, is := path(t, r, from, to)
				if !is {
					continue
				}
				long = max(long, len(l))
				at, seen := from, map[int]int{}
				for _, h := range l {
					j := r.Joins[h.Join]
					steps, end := j.Lens, j.To
					if h.Back {
						steps, end = lens.Back(j.Lens), j.From
					}
					made, _, err := lens.Target(r.Schemas[at].Type, steps)
					if seen[h.Join]++; seen[h.Join] > 1 || !slices.Contains(graph.Around(r, at), h) || err != api.OK || show(made) != show(r.Schemas[end].Type) {
						t.Errorf("%d to %d: %s, at %d: %v", from, to, show(l), at, err)
					}
					at = end
				}
				if at != to {
					t.Errorf("%d to %d: %s leads to %d", from, to, show(l), at)
				}
			}
		}
	}
	if long < 5 {
		t.Errorf("the longest is %d", long)
	}
}

func TestP10_6EachSchemaInOneComponent(t *testing.T) {
	for _, r := range randoms(8, 200) {
		for k := range r.Schemas {
			own := graph.Component(r, k)
			if !slices.Contains(own, k) || !slices.IsSorted(own) || len(slices.Compact(slices.Clone(own))) != len(own) {
				t.Errorf("%d: %v", k, own)
			}
			for other := range r.Schemas {
				its := graph.Component(r, other)
				if slices.Contains(own, other) != slices.Equal(own, its) || slices.Contains(its, k) != slices.Contains(own, other) {
					t.Errorf("%d: %v, %d: %v", k, own, other, its)
				}
			}
		}
	}
}

// wantKept asks that all ways of r, and all that stands in it, are in more, too.
func wantKept(t *testing.T, r, more api.Registry) {
	t.Helper()
	if !graph.Right(more) {
		t.Errorf("not right: %s", show(more))
		return
	}
	want(t, "schemas", more.Schemas[:len(r.Schemas)], r.Schemas)
	want(t, "joins", more.Joins[:len(r.Joins)], r.Joins)
	for from, s := range r.Schemas {
		if got := graph.Find(more, s.Name); got != from {
			t.Errorf("%s at %d", s.Name, got)
		}
		around := graph.Around(r, from)
		want(t, "around "+s.Name, graph.Around(more, from)[:len(around)], around)
		for to := range r.Schemas {
			if l, is := path(t, r, from, to); is {
				wantBoth(t, strconv.Itoa(from)+" to "+strconv.Itoa(to), l, api.OK)(graph.Path(more, from, to))
			}
		}
	}
}

func TestP10_7WhatIsAddedChangesNoWay(t *testing.T) {
	r := chance(11, 12)
	joined := 0
	for _, x := range randoms(9, 250) {
		if more, err := graph.AddSchema(x, "z", randomRec(r, 2)); err == api.OK {
			wantKept(t, x, more)
		}
		if len(x.Joins) > 0 { // without its last join, which is added again
			less, j := x, x.Joins[len(x.Joins)-1]
			less.Joins = x.Joins[:len(x.Joins)-1]
			more, err := graph.AddJoin(less, x.Schemas[j.From].Name, x.Schemas[j.To].Name, j.Lens)
			wantBoth(t, "added again", x, api.OK)(more, err)
			wantKept(t, less, more)
			joined++
		}
		a, b := someOf(r, x), someOf(r, x)
		if more, err := graph.Union(a, b); err == api.OK {
			wantKept(t, a, more)
		}
	}
	if joined < 150 {
		t.Errorf("%d joins were added", joined)
	}
}

// chosenBy is x, whose schemas and joins are those of r, in the order of r.
func chosenBy(x, r api.Registry) api.Registry {
	var schemas, joins []int
	for _, s := range r.Schemas {
		schemas = append(schemas, slices.Index(namesOf(x), s.Name))
	}
	for _, j := range r.Joins {
		joins = append(joins, slices.Index(joinsOf(x), joinOf(r, j)))
	}
	return chosen(x, schemas, joins)
}

func TestP10_7UnionWithLess(t *testing.T) {
	r := chance(13, 14)
	for _, x := range append(randoms(10, 400), alike(12, chain()...)) {
		for what, less := range map[string]api.Registry{"itself": x, "none": {}, "itself in another order": shuffled(r, x), "less": someOf(r, x), "lesser": someOf(r, someOf(r, x))} {
			wantBoth(t, what+": "+show(x), x, api.OK)(graph.Union(x, less))
		}
		wantBoth(t, "of none", x, api.OK)(graph.Union(api.Registry{}, x))
		made, err := graph.Union(someOf(r, x), x)
		if err != api.OK || !graph.Right(made) || !graph.Same(chosenBy(made, x), x) || len(made.Schemas) != len(x.Schemas) || len(made.Joins) != len(x.Joins) {
			t.Errorf("of less: %s, %v", short(show(made)), err)
		}
	}
}

// No call panics, each ends, and tells the same again, whatever it is given.
func TestW1AnyArguments(t *testing.T) {
	r := chance(15, 16)
	all := append(wrongOnes(), randoms(11, 100)...)
	slices.SortFunc(all, func(a, b api.Registry) int { return len(show(a)) - len(show(b)) })
	all = append(all, unlike()...)
	places := []int{-1, 0, 1, 2, 5, 12, 100, api.MinInt, api.MaxInt}
	types := []api.Type{{}, typ("bool"), typ("{}"), {Kind: api.TRec, Fields: make([]api.Field, 2)}, {Kind: -1}}
	steps := [][]api.Lens{nil, make([]api.Lens, 3), lenses("rename a to b;"), {{Kind: api.LIn, Subs: make([]api.Lens, 100)}}}
	for range 1500 {
		x, other, k, to := any1(r, all), any1(r, all), any1(r, places), any1(r, places)
		x, other = changed(r, x), changed(r, other)
		names := append(namesOf(x), "", "s", "zz", "\xff")
		from, till, of, l := any1(r, names), any1(r, names), any1(r, types), any1(r, steps)
		ask := func() string {
			one, err1 := graph.AddSchema(x, from, of)
			two, err2 := graph.AddJoin(x, from, till, l)
			three, err3 := graph.Union(x, other)
			four, err4 := graph.Path(x, k, to)
			if !graph.Right(one) || !graph.Right(two) || !graph.Right(three) {
				t.Errorf("not right: %s, %s, %s", short(show(one)), short(show(two)), short(show(three)))
			}
			return show(one) + show(two) + show(three) + show(four) + show([]api.Errno{err1, err2, err3, err4}) +
				show(graph.Around(x, k)) + show(graph.Component(x, k)) + strconv.Itoa(graph.Find(x, from)) + strconv.FormatBool(graph.Right(x))
		}
		if one, two := ask(), ask(); one != two {
			t.Errorf("%s, and then %s", short(one), short(two))
		}
	}
}

func TestW1FarTooMuch(t *testing.T) {
	const much = 1 << 16
	x, l, d := typ("bool"), lenses("wrap a;"), doc.Int(1)
	for range 60 {
		x = api.Type{Kind: api.TRec, Fields: []api.Field{{Name: "a", Type: x}, {Name: "b", Type: x}}}
		l = []api.Lens{{Kind: api.LIn, A: "a", Subs: l}, {Kind: api.LIn, A: "b", Subs: l}}
	}
	for range much {
		d = api.Doc{Kind: api.DList, Kids: []api.Doc{d}}
	}
	deep := lenses("wrap a;")
	for range much {
		deep = []api.Lens{{Kind: api.LIn, A: "a", Subs: deep}}
	}
	wantBoth(t, "a type of far too many parts", api.Registry{}, api.ErrArg)(graph.AddSchema(some(), "z", x))
	for _, l := range [][]api.Lens{l, deep, make([]api.Lens, 1<<20)} {
		wantBoth(t, "a far too long lens", api.Registry{}, api.ErrFull)(graph.AddJoin(some(), "s", "x", l))
		wantBoth(t, "a far too long lens, in a ring", api.Registry{}, api.ErrCycle)(graph.AddJoin(some(), "s", "t", l))
		if graph.Right(alike(2, join(0, 1, l...))) {
			t.Error("right, by a far too long lens")
		}
	}
	wantBoth(t, "a value that is no scalar's", api.Registry{}, api.ErrRange)(graph.AddJoin(some(), "s", "x", []api.Lens{{Kind: api.LAdd, A: "z", Type: typ("bool"), Doc: d}}))
	many := api.Registry{Schemas: make([]api.Named, 1<<20), Joins: make([]api.Join, 1<<20)}
	if graph.Right(many) || graph.Right(api.Registry{Schemas: some().Schemas, Joins: many.Joins}) || graph.Right(alike(5000)) || !graph.Same(many, many) || !graph.Same(graph.Copy(many), many) {
		t.Error("of far too many")
	}
	wantRefused(t, "far too many joins", api.Registry{Schemas: some().Schemas, Joins: many.Joins})
}
