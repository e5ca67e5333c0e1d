package apply_test

import (
	"slices"
	"testing"

	"cabochon/api"
	"cabochon/apply"
	"cabochon/doc"
)

// rising is places, each ahead of all that stand behind it.
func rising() []api.Res {
	var l []api.Res
	for _, edge := range []int{api.MinInt, -1, 0, 1, 7, api.MaxInt} {
		for _, step := range [][]int{nil, {api.MinInt}, {-1, 9}, {0}, {0, 0}, {0, 0, 5}, {0, 1}, {1}, {1, -1}, {1, 0}, {2}, {10}, {api.MaxInt}} {
			for _, at := range [][]string{nil, {""}, {"", ""}, {"", "a"}, {"B"}, {"a"}, {"a", ""}, {"a", "b"}, {"a", "b", "a"}, {"aa"}, {"b"}, {"b", "a"}, {"é"}, {"\xff"}} {
				l = append(l, api.Res{Edge: edge, Step: step, At: at})
			}
		}
	}
	return l
}

func TestP8_1Less(t *testing.T) {
	all := rising()
	for i, a := range all {
		for k, b := range all {
			wanted := 0
			switch {
			case i < k:
				wanted = -1
			case i > k:
				wanted = 1
			}
			a.Doc, b.Doc = doc.Int(k), doc.Int(i) // what is left out doesn't count
			if got := apply.Less(a, b); got != wanted {
				t.Fatalf("%s, %s: %d", show(a), show(b), got)
			}
		}
	}
	if apply.Less(api.Res{}, api.Res{Step: []int{}, At: []string{}}) != 0 {
		t.Error("rows that are none, and empty ones")
	}
}

func TestP8_1Right(t *testing.T) {
	a, b, c := out(place(1), "3", "k"), out(place(1), "3", "l"), out(place(1, 0), "{a = [<>]}")
	bad, other := b, b
	bad.Doc = api.Doc{Kind: api.DInt, Str: "x"}
	other.Doc = val("4")
	kids := out(place(9), "3")
	kids.Doc = doc.List(doc.Int(1), api.Doc{})
	for what, l := range map[string]struct {
		l  []api.Res
		is bool
	}{
		"none": {nil, true}, "empty": {res(), true}, "one": {res(a), true}, "two": {res(a, b), true}, "three": {res(a, b, c), true},
		"the wrong way round": {res(b, a), false}, "the wrong way round behind": {res(a, c, b), false},
		"twice": {res(a, a), false}, "twice behind": {res(a, b, b), false}, "twice, of unlike documents": {res(b, other), false},
		"wrong": {res(bad), false}, "wrong behind": {res(a, bad), false}, "wrong ahead": {res(bad, c), false},
		"wrong within": {res(a, kids), false}, "a zero document": {res(api.Res{}), false}, "a zero place": {res(api.Res{Doc: doc.Int(1)}), true},
		"all": {many(0, api.MaxRes), true}, "too many": {many(0, api.MaxRes+1), false},
	} {
		if apply.Right(l.l) != l.is {
			t.Errorf("%s: %v", what, !l.is)
		}
	}
	all := rising()
	for i := range all {
		all[i].Doc = doc.Bool(true)
	}
	for i := range len(all) - api.MaxRes {
		if !apply.Right(all[i : i+api.MaxRes]) {
			t.Errorf("places from the %d-th on", i)
		}
	}
}

// rows is all rows of at most so many of few places, each of another document.
func rows(most int) [][]api.Res {
	places := res(left(0, nil, "0"), left(1, place(0), "0"), left(1, place(0), "0", ""), left(1, place(0, 0), "0"))
	all := [][]api.Res{nil}
	for from := 0; most > 0; most-- {
		to := len(all)
		for _, l := range all[from:to] {
			for _, x := range places {
				x.Doc = doc.Int(len(l) + 1)
				all = append(all, append(slices.Clone(l), x))
			}
		}
		from = to
	}
	return all
}

// isAt is whether x is at the place of y.
func isAt(x, y api.Res) bool {
	return x.Edge == y.Edge && slices.Equal(x.Step, y.Step) && slices.Equal(x.At, y.At)
}

// wantRows holds Find, Drop and Put of x to what the chapter says.
func wantRows(t *testing.T, l []api.Res, x api.Res) {
	t.Helper()
	first, ahead, dropped := -1, -1, res()
	for i, r := range l {
		if isAt(r, x) && first < 0 {
			first = i
		}
		if isAt(r, x) {
			continue
		}
		if ahead < 0 && apply.Less(r, x) >= 0 {
			ahead = len(dropped)
		}
		dropped = append(dropped, r)
	}
	if ahead < 0 {
		ahead = len(dropped)
	}
	if got := apply.Find(l, x.Edge, x.Step, x.At); got != first {
		t.Errorf("%s in %s: at %d, not %d", show(x), show(l), got, first)
	}
	want(t, "Drop "+show(x)+" of "+show(l), apply.Drop(l, x.Edge, x.Step, x.At), dropped)
	want(t, "Put "+show(x)+" to "+show(l), apply.Put(l, x), slices.Concat(dropped[:ahead], res(x), dropped[ahead:]))
}

func TestP8_1FindPutDrop(t *testing.T) {
	places := res(left(1, place(0), "[9]", ""), left(1, place(0), "[9]"), left(0, nil, "[9]"), left(1, place(0, 0), "[9]"),
		left(-1, nil, "[9]"), left(0, place(0), "[9]"), left(1, nil, "[9]"), left(1, place(0), "[9]", "", ""), left(1, place(0), "[9]", "a"), left(2, nil, "[9]"), api.Res{Edge: 1, Step: place(0)})
	for _, l := range rows(4) {
		for _, x := range places {
			wantRows(t, l, x)
		}
	}
	all := rising()
	for i, x := range all {
		if apply.Find(all, x.Edge, x.Step, x.At) != i {
			t.Errorf("%s: not at %d", show(x), i)
		}
	}
	for i := 0; i < len(all); i += 97 {
		wantRows(t, all, all[i])
		wantRows(t, slices.Delete(slices.Clone(all), i, i+1), all[i])
		wantRows(t, slices.Concat(all[i:], all[:i]), all[i])
	}
}

// What is put one by one, in any order, rises.
func TestP8_1PutRises(t *testing.T) {
	var l []api.Res
	for i := range api.MaxRes {
		l = apply.Put(l, left(i*77%5, place(i*31%256), "true"))
	}
	if len(l) != api.MaxRes || !apply.Right(l) || apply.Right(apply.Put(l, left(9, nil, "true"))) {
		t.Errorf("%d: %s", len(l), short(show(l)))
	}
}

// unlike is states each of which is another one but for one part.
func unlike() []api.State {
	changes := []func(s *api.State){
		func(s *api.State) {},
		func(s *api.State) { s.Doc = api.Doc{} },
		func(s *api.State) { s.Doc.Num = 1 },
		func(s *api.State) { s.Doc.Kids[0].Kids[0].Num = 2 },
		func(s *api.State) { s.Doc.Keys[0] = "b" },
		func(s *api.State) { s.Res = nil },
		func(s *api.State) { s.Res = s.Res[:1] },
		func(s *api.State) { s.Res = s.Res[1:] },
		func(s *api.State) { slices.Reverse(s.Res) },
		func(s *api.State) { s.Res = append(s.Res, s.Res[1]) },
		func(s *api.State) { s.Res = append(s.Res, api.Res{}) },
		func(s *api.State) { s.Res[0].Edge = 8 },
		func(s *api.State) { s.Res[1].Edge = 8 },
		func(s *api.State) { s.Res[0].Step = nil },
		func(s *api.State) { s.Res[1].Step[1] = 1 },
		func(s *api.State) { s.Res[1].Step = append(s.Res[1].Step, 0) },
		func(s *api.State) { s.Res[0].At = []string{""} },
		func(s *api.State) { s.Res[1].At[0] = "K" },
		func(s *api.State) { s.Res[1].At = nil },
		func(s *api.State) { s.Res[0].Doc = api.Doc{} },
		func(s *api.State) { s.Res[0].Doc.Kind = api.DBool },
		func(s *api.State) { s.Res[1].Doc.Kids[0].Num = 6 },
	}
	var l []api.State
	for _, change := range changes {
		s := state("{a = [1]}", out(place(2), "1"), out(place(3, 0), "[5]", "k"))
		change(&s)
		l = append(l, s)
	}
	return l
}

func TestP8_1Same(t *testing.T) {
	for i, a := range unlike() {
		for k, b := range unlike() {
			if apply.Same(a, b) != (i == k) {
				t.Errorf("%d, %d: %s, %s", i, k, show(a), show(b))
			}
		}
	}
	empty := api.State{Doc: api.Doc{Keys: []string{}, Kids: []api.Doc{}}, Res: []api.Res{}}
	if !apply.Same(empty, api.State{}) || !apply.Same(api.State{}, empty) {
		t.Error("nothing")
	}
	empty.Res = res(api.Res{Step: []int{}, At: []string{}, Doc: empty.Doc})
	none := api.State{Res: make([]api.Res, 1)}
	if !apply.Same(empty, none) || !apply.Same(none, empty) {
		t.Error("rows that are none, and empty ones")
	}
}

func TestP8_1Copy(t *testing.T) {
	for _, s := range append(unlike(), api.State{Res: rising()}, api.State{Doc: api.Doc{Kind: -3, Num: 5, Str: "x", Keys: []string{"b", "a"}, Kids: make([]api.Doc, 3)}}) {
		want(t, "Copy", apply.Copy(s), s)
	}
}
