package apply_test

import (
	"cmp"
	"fmt"
	"maps"
	"slices"
	"testing"

	"cabochon/api"
	"cabochon/apply"
	"cabochon/doc"
	"cabochon/lens"
	"cabochon/valid"
)

// teller does what the chapter says of steps, line by line: it tells new documents, and keeps what is left out by its place as a text.
type teller struct {
	back  bool
	out   map[string]api.Res
	needs map[string]api.Res
	wrong bool
}

func placeOf(x api.Res) string { return fmt.Sprintf("%d %d %q", x.Edge, x.Step, x.At) }

func (m *teller) all(d api.Doc, l []api.Lens, p []int, k []string) api.Doc {
	for i := range l {
		if m.back {
			i = len(l) - 1 - i
		}
		d = m.step(d, l[i], append(slices.Clone(p), i), k)
	}
	return d
}

// step is what is said of one step, at the record d.
func (m *teller) step(d api.Doc, s api.Lens, p []int, k []string) api.Doc {
	fields := fieldsOf(d)
	a := fields[s.A]
	here := api.Res{Edge: edge, Step: p, At: k, Doc: s.Doc}
	switch {
	case s.Kind == api.LRename && m.back:
		moveField(fields, s.B, fields, s.A)
	case s.Kind == api.LRename:
		moveField(fields, s.A, fields, s.B)
	case s.Kind == api.LAdd && !m.back, s.Kind == api.LRemove && m.back:
		m.needs[placeOf(here)] = here
		fields[s.A] = s.Doc
		if was, is := m.out[placeOf(here)]; is {
			m.wrong = m.wrong || !valid.Is(s.Type, was.Doc)
			fields[s.A] = was.Doc
			delete(m.out, placeOf(here))
		}
	case s.Kind == api.LRemove, s.Kind == api.LAdd:
		here.Doc = a
		m.out[placeOf(here)] = here
		delete(fields, s.A)
	case s.Kind == api.LHoist && !m.back, s.Kind == api.LPlunge && m.back:
		within := fieldsOf(a)
		moveField(within, s.B, fields, s.B)
		fields[s.A] = recOf(within)
	case s.Kind == api.LPlunge, s.Kind == api.LHoist:
		within := fieldsOf(a)
		moveField(fields, s.B, within, s.B)
		fields[s.A] = recOf(within)
	case s.Kind == api.LWrap && !m.back, s.Kind == api.LHead && m.back:
		fields[s.A] = doc.List(a)
	case s.Kind == api.LHead, s.Kind == api.LWrap:
		fields[s.A] = a.Kids[0]
	case s.Kind == api.LConvert:
		fields[s.A] = doc.Int(lens.Swap(a.Num, s.Swaps))
	case s.Kind == api.LIn:
		fields[s.A] = m.all(a, s.Subs, p, k)
	case s.Kind == api.LMap:
		each := api.Doc{Kind: api.DDict, Keys: a.Keys}
		for i, key := range a.Keys {
			each.Kids = append(each.Kids, m.all(a.Kids[i], s.Subs, p, append(slices.Clone(k), key)))
		}
		fields[s.A] = each
	}
	return recOf(fields)
}

func fieldsOf(d api.Doc) map[string]api.Doc {
	fields := map[string]api.Doc{}
	for i, key := range d.Keys {
		fields[key] = d.Kids[i]
	}
	return fields
}

func recOf(fields map[string]api.Doc) api.Doc {
	d := api.Doc{Kind: api.DRec}
	for _, name := range slices.Sorted(maps.Keys(fields)) {
		d.Keys = append(d.Keys, name)
		d.Kids = append(d.Kids, fields[name])
	}
	return d
}

// moveField moves a field that may not be there.
func moveField(from map[string]api.Doc, a string, to map[string]api.Doc, b string) {
	if x, is := from[a]; is {
		delete(from, a)
		to[b] = x
	}
}

// risingOf is those by rising places.
func risingOf(all map[string]api.Res) []api.Res {
	return slices.SortedFunc(maps.Values(all), func(a, b api.Res) int {
		return cmp.Or(cmp.Compare(a.Edge, b.Edge), slices.Compare(a.Step, b.Step), slices.Compare(a.At, b.At))
	})
}

// rightRows is whether l is right, by the chapter's words.
func rightRows(l []api.Res) bool {
	all := map[string]api.Res{}
	for _, x := range l {
		all[placeOf(x)] = x
		if !doc.Right(x.Doc) {
			return false
		}
	}
	return len(l) <= 256 && len(all) == len(l) && show(risingOf(all)) == show(l)
}

// said is what P8.2 and P8.3 say.
func said(t api.Type, l []api.Lens, back bool, s api.State) (api.State, []api.Res, api.Errno) {
	turned := l
	if back {
		turned = lens.Back(l)
	}
	if _, _, err := lens.Target(t, turned); err != api.OK {
		return api.State{}, nil, err
	}
	if !rightRows(s.Res) {
		return api.State{}, nil, api.ErrArg
	}
	if !valid.Is(t, s.Doc) {
		return api.State{}, nil, api.ErrType
	}
	m := &teller{back: back, out: map[string]api.Res{}, needs: map[string]api.Res{}}
	for _, x := range s.Res {
		m.out[placeOf(x)] = x
	}
	d := m.all(s.Doc, l, nil, nil)
	res := risingOf(m.out)
	switch {
	case m.wrong:
		return api.State{}, nil, api.ErrRange
	case !rightRows(res):
		return api.State{}, nil, api.ErrArg
	case !doc.Right(d):
		return api.State{}, nil, api.ErrFull
	}
	return api.State{Doc: d, Res: res}, risingOf(m.needs), api.OK
}

// wantSaid holds Go and Needs to what the chapter says; it tells what Go does.
func wantSaid(t *testing.T, x api.Type, l []api.Lens, back bool, s api.State) (api.State, api.Errno) {
	t.Helper()
	got, err := apply.Go(x, l, edge, back, s)
	wanted, _, told := said(x, l, back, s)
	_, needed, _ := said(x, l, back, api.State{Doc: s.Doc})
	needs := apply.Needs(x, l, edge, back, s.Doc)
	if err != told || show(got) != show(wanted) || show(needs) != show(needed) {
		t.Errorf("%s by %s, back %v, from %s: %v, not %v", short(show(s)), short(show(l)), back, short(show(x)), err, told)
		want(t, "state", got, wanted)
		want(t, "needs", needs, needed)
	}
	return got, err
}

func TestP8_2AnyWay(t *testing.T) {
	r := chance(1, 2)
	told, done := map[api.Errno]int{}, map[int]int{}
	for _, c := range randoms(1, 6000) {
		s := api.State{Doc: c.d, Res: randomRes(r, c, false)}
		made, err := wantSaid(t, c.t, c.l, false, s)
		told[err]++
		if err != api.OK {
			continue
		}
		for _, s := range c.l {
			done[s.Kind]++
		}
		made.Res = randomRes(r, c.behind(made.Doc), true)
		_, err = wantSaid(t, c.to, c.l, true, made)
		told[err]++
		wantSaid(t, c.t, c.l, true, s)
		wantSaid(t, c.to, c.l, false, made)
	}
	for _, err := range []api.Errno{api.OK, api.ErrArg, api.ErrRange} {
		if told[err] < 300 {
			t.Errorf("%v came up %d times", err, told[err])
		}
	}
	for kind := api.LRename; kind <= api.LMap; kind++ {
		if done[kind] < 300 {
			t.Errorf("%d of kind %d were done", done[kind], kind)
		}
	}
}

// Documents that are not of the type, and lenses that are not of it.
func TestP8_2AnyWrongWay(t *testing.T) {
	r := chance(3, 4)
	all := randoms(5, 1500)
	told := map[api.Errno]int{}
	for i, c := range all {
		other := all[(i+1)%len(all)]
		for _, x := range []api.Type{c.t, c.to, other.t} {
			for _, d := range []api.Doc{c.d, other.d} {
				_, err := wantSaid(t, x, c.l, i%2 == 0, api.State{Doc: d, Res: randomRes(r, c, false)})
				told[err]++
			}
		}
	}
	for _, err := range []api.Errno{api.OK, api.ErrArg, api.ErrType, api.ErrMiss, api.ErrTwice} {
		if told[err] < 100 {
			t.Errorf("%v came up %d times", err, told[err])
		}
	}
}

// Documents that are near to the limits, at which much is too much.
func TestP8_2AnyWayAtTheLimits(t *testing.T) {
	r := chance(7, 8)
	told := map[api.Errno]int{}
	x := typ("{a: bool, d: dict (0 .. 512) of {a: bool, b: bool, o?: bool}, r: {}}")
	for range 200 {
		l := steps(each("d", randomLens(r, x.Fields[1].Type.Of[0], 1+r.IntN(5), 1)...))
		d := doc.Rec([]string{"a", "d", "r"}, []api.Doc{val("true"), dict(170-r.IntN(90), val("{a = true, b = false}")), val("{}")})
		made, err := wantSaid(t, x, l, false, api.State{Doc: d, Res: many(r.IntN(10), r.IntN(120))})
		told[err]++
		if err == api.OK {
			to, _, _ := lens.Target(x, l)
			_, err = wantSaid(t, to, l, true, made)
			told[err]++
		}
	}
	for _, err := range []api.Errno{api.OK, api.ErrArg, api.ErrFull} {
		if told[err] < 10 {
			t.Errorf("%v came up %d times", err, told[err])
		}
	}
}
