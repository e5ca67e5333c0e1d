package apply_test

import (
	"testing"

	"cabochon/api"
	"cabochon/apply"
	"cabochon/doc"
	"cabochon/lens"
	"cabochon/schema"
	"cabochon/valid"
)

// where is c's document, and at each of Needs something of the type of the step there.
func where(c made, back bool, fill func(of api.Type) api.Doc) api.State {
	s := api.State{Doc: c.d}
	types := map[string]api.Type{}
	typesAt(types, c.l, nil)
	for _, x := range apply.Needs(c.t, c.l, edge, back, c.d) {
		x.Doc = fill(types[show(x.Step)])
		s.Res = apply.Put(s.Res, x)
	}
	return s
}

// typesAt is the types of all steps, by their places.
func typesAt(types map[string]api.Type, l []api.Lens, step []int) {
	for i, s := range l {
		at := append(append([]int(nil), step...), i)
		types[show(at)] = s.Type
		typesAt(types, s.Subs, at)
	}
}

func TestP8_5ThereAndBack(t *testing.T) {
	r := chance(11, 12)
	left := 0
	for _, c := range randoms(13, 4000) {
		s := where(c, false, func(of api.Type) api.Doc { return randomDoc(r, of) })
		s.Res = apply.Put(s.Res, api.Res{Edge: edge + r.IntN(2)*2 - 1, Step: place(r.IntN(3)), Doc: doc.Int(r.IntN(3))})
		behind := wantThereAndBack(t, c, false, s)
		left += len(behind.Res)
		c = c.behind(behind.Doc)
		wantThereAndBack(t, c, true, where(c, true, func(of api.Type) api.Doc { return randomDoc(r, of) }))
	}
	if left < 4000 {
		t.Errorf("only %d were left out", left)
	}
}

// wantThereAndBack asks for where s was, and tells what it is at the other end.
func wantThereAndBack(t *testing.T, c made, back bool, s api.State) api.State {
	t.Helper()
	there, err := apply.Go(c.t, c.l, edge, back, s)
	if err != api.OK {
		t.Errorf("%s by %s, back %v: %v", show(s), show(c.l), back, err)
		return there
	}
	if !valid.Is(c.to, there.Doc) {
		t.Errorf("%s by %s, back %v: %s", show(s), show(c.l), back, show(there))
	}
	again, err := apply.Go(c.to, c.l, edge, !back, there)
	if err != api.OK || show(again) != show(s) || !apply.Same(again, s) {
		t.Errorf("%s by %s, back %v: %s, %s, %v", show(s), show(c.l), back, show(there), show(again), err)
	}
	return there
}

func TestP8_6ThereAndBackAndThere(t *testing.T) {
	for _, c := range randoms(17, 4000) {
		first, err := apply.Go(c.t, c.l, edge, false, api.State{Doc: c.d})
		second, errBack := apply.Go(c.to, c.l, edge, true, first)
		third, errThere := apply.Go(c.t, c.l, edge, false, second)
		if err != api.OK || errBack != api.OK || errThere != api.OK || show(third) != show(first) {
			t.Errorf("%s by %s: %s, %s, %s; %v, %v, %v", show(c.d), show(c.l), show(first), show(second), show(third), err, errBack, errThere)
		}
	}
}

// A lens back is the lens turned round there, but for the places of what is left out.
func TestP8_2BackIsTurnedRound(t *testing.T) {
	for _, c := range randoms(19, 2000) {
		there, _ := apply.Go(c.t, c.l, edge, false, api.State{Doc: c.d})
		back, err := apply.Go(c.to, c.l, edge, true, api.State{Doc: there.Doc})
		turned, errTurned := apply.Go(c.to, lens.Back(c.l), edge, false, api.State{Doc: there.Doc})
		if err != api.OK || errTurned != api.OK || show(back.Doc) != show(turned.Doc) || len(back.Res) != len(turned.Res) {
			t.Errorf("%s by %s: %s, %v; turned round %s, %v", show(there.Doc), show(c.l), show(back), err, show(turned), errTurned)
		}
	}
}

// No call panics, each ends, and tells the same again, whatever it is given.
func TestW1AnyStates(t *testing.T) {
	r := chance(23, 24)
	all := randoms(29, 300)
	types := []api.Type{{}, typ("bool"), typ("{}"), {Kind: api.TRec, Fields: make([]api.Field, 2)}, {Kind: api.TDict}, {Kind: api.TRec, Of: make([]api.Type, 1)}}
	docs := []api.Doc{{}, val("{}"), val("[1]"), {Kind: api.DRec, Keys: []string{"a", "b"}}, {Kind: api.DRec, Kids: make([]api.Doc, 2)}, {Kind: api.DList, Kids: make([]api.Doc, 600)}, {Kind: -5, Num: 7}}
	rows := [][]api.Res{nil, make([]api.Res, 3), rising(), many(edge, 300), res(left(1, place(0), "1"), left(0, place(0), "1"))}
	wild := []api.Lens{{}, {Kind: -1}, {Kind: 11}, {Kind: api.LMap}, {Kind: api.LIn, Subs: make([]api.Lens, 2)}, {Kind: api.LHead, A: "a"}, {Kind: api.LConvert, A: "a"}, {Kind: api.LAdd, A: "z", Type: typ("bool"), Doc: docs[3]}}
	for i := range 1500 {
		c, other := any1(r, all), any1(r, all)
		l := append(append([]api.Lens(nil), c.l...), any1(r, wild))
		x := any1(r, append(types, c.t, c.t, c.to, other.t))
		s := api.State{Doc: any1(r, append(docs, c.d, c.d, other.d)), Res: any1(r, append(rows, nil, nil))}
		back := i%2 == 0
		got, err := apply.Go(x, l, edge, back, s)
		again, told := apply.Go(schema.Copy(x), lens.Copy(l), edge, back, apply.Copy(s))
		if err != told || show(got) != show(again) || err != api.OK && show(got) != "{}" {
			t.Errorf("%s: %v, and then %v", show(got), err, told)
		}
		needs := apply.Needs(x, l, edge, back, s.Doc)
		if show(needs) != show(apply.Needs(x, l, edge, back, s.Doc)) || !apply.Right(needs) {
			t.Errorf("%s", show(needs))
		}
		apply.Put(s.Res, api.Res{Doc: s.Doc})
		apply.Same(s, got)
	}
}

func TestW1FarTooMuch(t *testing.T) {
	const much = 1 << 16
	long := make([]int, much)
	keys := make([]string, much)
	shared, deep := doc.Int(1), doc.Int(1)
	for range 60 {
		shared = api.Doc{Kind: api.DList, Kids: []api.Doc{shared, shared}}
	}
	for range much {
		deep = api.Doc{Kind: api.DList, Kids: []api.Doc{deep}}
	}
	x := api.Res{Edge: edge, Step: long, At: keys, Doc: val("true")}
	if l := apply.Put(apply.Put(nil, x), x); len(l) != 1 || !apply.Right(l) || apply.Find(l, edge, long, keys) != 0 || apply.Find(l, edge, long[1:], keys) != -1 || apply.Less(x, l[0]) != 0 {
		t.Error("of a long place")
	}
	if s := (api.State{Doc: deep}); !apply.Same(s, apply.Copy(s)) {
		t.Error("of a deep one")
	}
	record := typ("{a: list (0 .. 2) of bool}")
	for _, d := range []api.Doc{shared, deep} {
		if apply.Right(res(api.Res{Doc: d})) {
			t.Error("of a far too great one")
		}
		wantNone(t, "a far too great one", record, nil, false, api.State{Doc: rec("a", val("[]")), Res: res(api.Res{Doc: d})}, api.ErrArg)
		if got, err := apply.Go(record, nil, edge, false, api.State{Doc: api.Doc{Kind: api.DRec, Keys: []string{"a"}, Kids: []api.Doc{d}}}); err != api.ErrType || len(got.Doc.Kids) > 0 {
			t.Errorf("of one that is far too great: %v", err)
		}
	}
	most := make([]api.Res, 1<<18)
	for i := range most {
		most[i] = api.Res{Edge: i, Doc: val("true")}
	}
	if apply.Right(most) || apply.Find(most, 1<<17, nil, nil) != 1<<17 || len(apply.Drop(most, 1<<17, nil, nil)) != 1<<18-1 || len(apply.Put(most, api.Res{Edge: -1})) != 1<<18+1 {
		t.Error("of a long row")
	}
	wantNone(t, "a long row", record, nil, true, api.State{Doc: rec("a", val("[]")), Res: most}, api.ErrArg)
	wantNone(t, "a long lens", record, make([]api.Lens, 1<<18), true, api.State{Doc: rec("a", val("[]"))}, api.ErrFull)
}
