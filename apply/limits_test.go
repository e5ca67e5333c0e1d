package apply_test

import (
	"slices"
	"testing"

	"cabochon/api"
	"cabochon/apply"
	"cabochon/doc"
)

// entries is the type of a record whose d is a dictionary of such records.
func entries(s string) api.Type { return typ("{d: dict (0 .. 512) of " + s + "}") }

// filled is a document of it, of so many entries.
func filled(n int, s string) api.Doc { return rec("d", dict(n, val(s))) }

// atEach is what is left out of so many entries, at each of the steps in its turn.
func atEach(n int, d string, places ...[]int) []api.Res {
	var l []api.Res
	for _, step := range places {
		for i := range n {
			l = append(l, out(step, d, key(i)))
		}
	}
	return l
}

func TestP8_2TooMuchLeftOut(t *testing.T) {
	x := entries("{a: bool, b: bool}")
	both, none := filled(128, "{a = true, b = true}"), filled(128, "{}")
	l := steps(each("d", remove("a", "bool", "true"), remove("b", "bool", "true")))
	gone := atEach(128, "true", place(0, 0), place(0, 1))
	wantGo(t, "as much as may be", x, l, false, api.State{Doc: both}, api.State{Doc: none, Res: gone})
	wantGo(t, "as much, back", entries("{}"), l, true, api.State{Doc: none, Res: gone}, api.State{Doc: both})
	wantGo(t, "as much, where it was", x, l, false, api.State{Doc: both, Res: gone}, api.State{Doc: none, Res: gone})
	wantNone(t, "of one entry more", x, l, false, api.State{Doc: filled(129, "{a = true, b = true}")}, api.ErrArg)
	wantNone(t, "one more elsewhere", x, l, false, api.State{Doc: both, Res: many(6, 1)}, api.ErrArg)
	wantNone(t, "all elsewhere", x, l, false, api.State{Doc: both, Res: many(8, api.MaxRes)}, api.ErrArg)

	yes := typ("{a: bool}")
	l = steps(remove("a", "bool", "true"))
	wantGo(t, "the last one", yes, l, false, api.State{Doc: val("{a = true}"), Res: many(6, api.MaxRes-1)}, api.State{Doc: val("{}"), Res: append(many(6, api.MaxRes-1), out(place(0), "true"))})
	wantNone(t, "one too many", yes, l, false, api.State{Doc: val("{a = true}"), Res: many(6, api.MaxRes)}, api.ErrArg)
	wantGo(t, "instead of one", yes, l, false, api.State{Doc: val("{a = true}"), Res: many(edge, api.MaxRes)}, api.State{Doc: val("{}"), Res: many(edge, api.MaxRes)})
	wantGo(t, "one less", typ("{}"), l, true, api.State{Doc: val("{}"), Res: many(edge, api.MaxRes)}, api.State{Doc: val("{a = true}"), Res: many(edge, api.MaxRes)[1:]})

	l = append(l, add("b", "bool", "false"))
	wantGo(t, "too many for a while", yes, l, false, api.State{Doc: val("{a = true}"), Res: slices.Concat(many(6, api.MaxRes-1), res(out(place(1), "true")))}, api.State{Doc: val("{b = true}"), Res: append(many(6, api.MaxRes-1), out(place(0), "true"))})
	wantNone(t, "too many, and out of the range", yes, l, false, api.State{Doc: val("{a = true}"), Res: slices.Concat(many(6, api.MaxRes-1), res(out(place(1), "1")))}, api.ErrRange)
	wantNone(t, "too many, and then out of the range", yes, l, false, api.State{Doc: val("{a = true}"), Res: slices.Concat(many(5, api.MaxRes-2), res(out(place(1), "1"), out(place(2), "true")))}, api.ErrRange)
}

func TestP8_2TooManyParts(t *testing.T) {
	x := entries("{}")
	l := steps(each("d", add("a", "bool", "true")))
	wantGo(t, "as many as may be", x, l, false, api.State{Doc: filled(255, "{}")}, api.State{Doc: filled(255, "{a = true}")})
	wantNone(t, "two more", x, l, false, api.State{Doc: filled(256, "{}")}, api.ErrFull)
	wantGo(t, "back", entries("{a: bool}"), l, true, api.State{Doc: filled(255, "{a = true}")}, api.State{Doc: filled(255, "{}"), Res: atEach(255, "true", place(0, 0))})

	l = append(steps(add("y", "bool", "true")), l...)
	wantNone(t, "one more", x, l, false, api.State{Doc: filled(255, "{}")}, api.ErrFull)
	l[0] = add("c", "bool", "true")
	wantNone(t, "one more, back", entries("{}"), steps(remove("c", "bool", "true"), each("d", remove("a", "bool", "true"))), true, api.State{Doc: filled(255, "{}")}, api.ErrFull)
	wantNone(t, "of which one was out of the range", x, l, false, api.State{Doc: filled(255, "{}"), Res: atEach(1, "1", place(1, 0))}, api.ErrRange)

	wrapped := typ("{a: bool, d: dict (0 .. 512) of bool}")
	d, _ := doc.Put(rec("d", dict(508, val("true"))), val("true"), "a")
	made, _ := doc.Put(d, val("[true]"), "a")
	wantGo(t, "wrapped", wrapped, steps(wrap("a")), false, api.State{Doc: d}, api.State{Doc: made})
	d, _ = doc.Put(rec("d", dict(509, val("true"))), val("true"), "a")
	wantNone(t, "wrapped to one more", wrapped, steps(wrap("a")), false, api.State{Doc: d}, api.ErrFull)
	wantGo(t, "too many for a while", wrapped, steps(wrap("a"), head("a")), false, api.State{Doc: d}, api.State{Doc: d})
	wantGo(t, "too many for a while, then removed", wrapped, steps(wrap("a"), head("a"), add("b", "bool", "false"), remove("a", "bool", "true"), rename("b", "a")), false, api.State{Doc: d},
		api.State{Doc: put(d, "false", "a"), Res: res(out(place(3), "true"))})
	wantNone(t, "too many, and too much left out", wrapped, steps(wrap("a"), add("b", "bool", "true"), remove("b", "bool", "true")), false, api.State{Doc: d, Res: many(6, api.MaxRes)}, api.ErrArg)
}

// put is d, with what is written at the path.
func put(d api.Doc, s string, path ...string) api.Doc {
	made, err := doc.Put(d, val(s), path...)
	if err != api.OK {
		panic(err)
	}
	return made
}

// deep is dictionaries of records within one another, with b in the last, which is 2 * depth + 2 deep.
func deep(depth int, b string) api.Doc {
	d := rec("b", val(b))
	for range depth {
		d = rec("d", dict(1, d))
	}
	return d
}

func TestP8_2TooDeepForAWhile(t *testing.T) {
	x, l := typ("{b: bool}"), steps(wrap("b"), head("b"), add("a", "bool", "true"), remove("b", "bool", "true"), rename("a", "b"))
	step, keys := place(), []string(nil)
	for range 5 {
		x = api.Type{Kind: api.TRec, Fields: []api.Field{{Name: "d", Type: api.Type{Kind: api.TDict, Hi: 1, Of: []api.Type{x}}}}}
		l = steps(each("d", l...))
		step, keys = append(step, 0), append(keys, key(0))
	}
	gone, needed := out(append(slices.Clone(step), 3), "false", keys...), out(append(slices.Clone(step), 2), "true", keys...)
	wantGo(t, "there", x, l, false, api.State{Doc: deep(5, "false")}, api.State{Doc: deep(5, "true"), Res: res(gone)})
	wantGo(t, "back", x, l, true, api.State{Doc: deep(5, "true"), Res: res(gone)}, api.State{Doc: deep(5, "false"), Res: res(needed)})
}

// As many steps as may be, at as many entries: far too many parts, and far too much left out, for a while.
func TestP8_2FarTooMuchForAWhile(t *testing.T) {
	names := "abcdefghijklmnopqrstuvwxyzabcde"
	var l []api.Lens
	for i, name := range names {
		l = append(l, add(string(name)+key(i), "bool", "true"))
	}
	one := append(slices.Clone(l), remove("a"+key(0), "bool", "true"), rename("b"+key(1), "z"))
	for i, name := range names[2:] {
		one = append(one, remove(string(name)+key(i+2), "bool", "true"))
	}
	one = append(one, remove("z", "bool", "true"))
	one = steps(each("d", one...))
	x, d := entries("{}"), filled(8, "{}")
	if got, err := apply.Go(x, one, edge, false, api.State{Doc: d}); err != api.OK || len(got.Res) != 31*8 {
		t.Errorf("%d, %v", len(got.Res), err)
	}
	if needs := apply.Needs(x, one, edge, false, d); len(needs) != 31*8 || !apply.Right(needs) {
		t.Errorf("%d needs", len(needs))
	}
	wantNone(t, "far too much left out", x, one, false, api.State{Doc: filled(510, "{}")}, api.ErrArg)
	wantNone(t, "far too much left out, back", x, one, true, api.State{Doc: filled(510, "{}")}, api.ErrArg)
}
