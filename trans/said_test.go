package trans_test

import (
	"maps"
	"math/rand/v2"
	"slices"
	"strconv"
	"strings"
	"testing"

	"cabochon/api"
	"cabochon/apply"
	"cabochon/graph"
	"cabochon/schema"
	"cabochon/trans"
	"cabochon/valid"
)

// What the chapter says, line by line. Schemas are come to on ways that graph tells; an error is thrown.

// said is what call answers, or a zero one and what it throws.
func said[T any](call func() T) (told T, err api.Errno) {
	defer func() {
		switch x := recover().(type) {
		case nil:
		case api.Errno:
			var none T
			told, err = none, x
		default:
			panic(x)
		}
	}()
	return call(), api.OK
}

func throwIf(is bool, err api.Errno) {
	if is {
		panic(err)
	}
}

func saidState(t api.Type, s api.State) {
	throwIf(!valid.Is(t, s.Doc), api.ErrType)
	throwIf(!apply.Right(s.Res), api.ErrArg)
}

func saidPath(r api.Registry, from, to int) []api.Hop {
	hops, err := graph.Path(r, from, to)
	throwIf(err != api.OK, err)
	return hops
}

// typeAt is the type of the schema at which the hop begins.
func typeAt(r api.Registry, h api.Hop) api.Type {
	if h.Back {
		return r.Schemas[r.Joins[h.Join].To].Type
	}
	return r.Schemas[r.Joins[h.Join].From].Type
}

func saidHop(r api.Registry, h api.Hop, s api.State) api.State {
	s, err := apply.Go(typeAt(r, h), r.Joins[h.Join].Lens, h.Join, h.Back, s)
	throwIf(err != api.OK, err)
	return s
}

// saidGo is what is said of Go.
func saidGo(r api.Registry, from, to int, s api.State) api.State {
	hops := saidPath(r, from, to)
	if len(hops) == 0 {
		saidState(r.Schemas[from].Type, s)
	}
	for _, h := range hops {
		s = saidHop(r, h, s)
	}
	return s
}

// saidFill is what is said of Fill.
func saidFill(r api.Registry, k int, s api.State) api.State {
	throwIf(!graph.Right(r), api.ErrArg)
	throwIf(k < 0 || k >= len(r.Schemas), api.ErrNone)
	return saidFilled(r, k, saidFilled(r, k, s))
}

// saidFilled is s, filled once: it goes to each schema of the component, each behind the one ahead of it on its way, and behind all that are come to by an earlier join; what is needed on the last join of each of these ways is left out ahead of it. Then it goes home.
func saidFilled(r api.Registry, k int, s api.State) api.State {
	saidState(r.Schemas[k].Type, s)
	at := k
	for _, next := range saidOrder(r, k)[1:] {
		hops := saidPath(r, at, next)
		s = saidGo(r, at, along(r, at, hops[:len(hops)-1]), s)
		h := hops[len(hops)-1]
		for _, x := range apply.Needs(typeAt(r, h), r.Joins[h.Join].Lens, h.Join, h.Back, s.Doc) {
			if apply.Find(s.Res, x.Edge, x.Step, x.At) < 0 {
				s.Res = apply.Put(s.Res, x)
			}
		}
		s = saidHop(r, h, s)
		saidState(r.Schemas[next].Type, s)
		at = next
	}
	return saidGo(r, at, k, s)
}

// saidOrder is the schemas of k's component by the joins that lead to them.
func saidOrder(r api.Registry, k int) []int {
	joins := map[int][]int{}
	for _, to := range graph.Component(r, k) {
		joins[to] = nil
		for _, h := range saidPath(r, k, to) {
			joins[to] = append(joins[to], h.Join)
		}
	}
	return slices.SortedFunc(maps.Keys(joins), func(a, b int) int { return slices.Compare(joins[a], joins[b]) })
}

// along is the schema to which the hops lead from k.
func along(r api.Registry, k int, hops []api.Hop) int {
	for _, h := range hops {
		if k = r.Joins[h.Join].To; h.Back {
			k = r.Joins[h.Join].From
		}
	}
	return k
}

// saidWhole is what is said of Whole.
func saidWhole(r api.Registry, k int, s api.State) bool {
	full, err := said(func() api.State { return saidFill(r, k, s) })
	plain, errStart := said(func() api.State { return saidFill(r, k, api.State{Doc: s.Doc}) })
	return err == api.OK && errStart == api.OK && show(full) == show(s) && show(places(plain.Res)) == show(places(s.Res))
}

// places is l without what is there.
func places(l []api.Res) []api.Res {
	l = slices.Clone(l)
	for i := range l {
		l[i].Doc = api.Doc{}
	}
	return l
}

// saidEdit is what is said of Edit.
func saidEdit(r api.Registry, from, to int, s api.State, d api.Doc) api.State {
	there := saidGo(r, from, to, s)
	there.Doc = d
	return saidGo(r, to, from, saidFill(r, to, there))
}

// wantSaid holds all calls to what is said of them, and tells the errors that came up.
func wantSaid(t *testing.T, r api.Registry, k, to int, s api.State, d api.Doc) []api.Errno {
	t.Helper()
	var told []api.Errno
	want := func(call string, model func() any) func(got any, err api.Errno) {
		wanted, wantedErr := said(model)
		told = append(told, wantedErr)
		text := "{}"
		if wantedErr == api.OK {
			text = show(wanted)
		}
		return func(got any, err api.Errno) {
			if err != wantedErr || show(got) != text {
				t.Errorf("%s: %s, %v, not %s, %v: %s at %d to %d, %s, of %s", call, show(got), err, text, wantedErr, show(s), k, to, show(d), show(r))
			}
		}
	}
	want("Go", func() any { return saidGo(r, k, to, s) })(trans.Go(r, k, to, s))
	want("Seen", func() any { return saidGo(r, k, to, s).Doc })(trans.Seen(r, k, to, s))
	want("Fill", func() any { return saidFill(r, k, s) })(trans.Fill(r, k, s))
	want("Start", func() any { return saidFill(r, k, api.State{Doc: d}) })(trans.Start(r, k, d))
	want("Edit", func() any { return saidEdit(r, k, to, s, d) })(trans.Edit(r, k, to, s, d))
	if got := trans.Whole(r, k, s); got != saidWhole(r, k, s) {
		t.Errorf("Whole: %v: %s at %d of %s", got, show(s), k, show(r))
	}
	return told
}

func TestP11_1To4AnyStates(t *testing.T) {
	t.Parallel()
	r := chance(1, 2)
	told := map[api.Errno]int{}
	whole := map[bool]int{}
	for _, x := range randoms(3, 500) {
		for _, s := range []api.State{x.s, messed(r, x)} {
			whole[trans.Whole(x.r, x.k, s)]++
			to := r.IntN(len(x.r.Schemas))
			d := any1(r, []api.Doc{s.Doc, otherwise(r, x.r.Schemas[x.k].Type, x.s.Doc), randomDoc(r, x.r.Schemas[to].Type)})
			for _, err := range wantSaid(t, x.r, x.k, to, s, d) {
				told[err]++
			}
		}
	}
	for _, err := range []api.Errno{api.OK, api.ErrArg, api.ErrType, api.ErrRange, api.ErrNoPath} {
		if told[err] < 25 {
			t.Errorf("%v came up %d times", err, told[err])
		}
	}
	if whole[true] < 500 || whole[false] < 100 {
		t.Errorf("%v", whole)
	}
}

func TestP11_1To4AnyWrongOnes(t *testing.T) {
	t.Parallel()
	r := chance(5, 6)
	all := randoms(7, 60)
	told := map[api.Errno]int{}
	for i, x := range all {
		other := all[(i+1)%len(all)]
		for _, k := range []int{-1, 0, 1, len(x.r.Schemas) - 1, len(x.r.Schemas), api.MinInt, api.MaxInt, r.IntN(5)} {
			for _, to := range []int{-1, 0, len(x.r.Schemas), api.MinInt, api.MaxInt, x.k} {
				for _, err := range wantSaid(t, x.r, k, to, any1(r, []api.State{x.s, other.s, messed(r, x)}), any1(r, []api.Doc{x.s.Doc, other.s.Doc})) {
					told[err]++
				}
			}
		}
	}
	for _, err := range []api.Errno{api.OK, api.ErrArg, api.ErrType, api.ErrNone, api.ErrNoPath} {
		if told[err] < 20 {
			t.Errorf("%v came up %d times", err, told[err])
		}
	}
}

// Documents that are near to the limits, at which much is too much.
func TestP11_1To4AnyStatesAtTheLimits(t *testing.T) {
	t.Parallel()
	r := chance(9, 10)
	told := map[api.Errno]int{}
	whole := 0
	for range 14 {
		x := laden(r)
		for k, s := range x.Schemas {
			d := rec("d", dict(60+r.IntN(120), schema.Least(s.Type.Fields[0].Type.Of[0])))
			state := api.State{Doc: d, Res: many(100, r.IntN(30))}
			for _, err := range wantSaid(t, x, k, r.IntN(len(x.Schemas)), state, d) {
				told[err]++
			}
			if made, err := trans.Start(x, k, d); err == api.OK && trans.Whole(x, k, made) {
				whole++
			}
		}
	}
	for _, err := range []api.Errno{api.OK, api.ErrArg, api.ErrFull} {
		if told[err] < 10 {
			t.Errorf("%v came up %d times", err, told[err])
		}
	}
	if whole < 10 {
		t.Errorf("%d were whole", whole)
	}
}

// laden is a registry of a few schemas of a dictionary of records that have some of three fields.
func laden(r *rand.Rand) api.Registry {
	of := []string{"{}", "{a: bool}", "{b: bool}", "{a: bool, b: bool}", "{a: bool, b: bool, c: bool}"}
	lens := func(from, to string) string {
		l := ""
		for _, f := range []string{"a", "b", "c"} {
			if strings.Contains(from, f+":") && !strings.Contains(to, f+":") {
				l += "remove " + f + ": bool = true;"
			}
			if strings.Contains(to, f+":") && !strings.Contains(from, f+":") {
				l += "add " + f + ": bool = true;"
			}
		}
		return "map d {" + l + "};"
	}
	var lines, chosen []string
	for k := range 2 + r.IntN(4) {
		chosen = append(chosen, of[r.IntN(len(of))])
		lines = append(lines, name(k)+": {d: dict (0 .. 512) of "+chosen[k]+"}")
		if k > 0 {
			from := r.IntN(k)
			lines = append(lines, strconv.Itoa(from)+" > "+strconv.Itoa(k)+":"+lens(chosen[from], chosen[k]))
		}
	}
	return registry(lines...)
}
