package graph_test

import (
	"reflect"
	"slices"
	"testing"

	"cabochon/api"
	"cabochon/graph"
)

// roomy is x with spare room behind all rows, in which something stands that must stay.
func roomy[T any](x T) T { return spared(reflect.ValueOf(&x).Elem()).Interface().(T) }

func spared(v reflect.Value) reflect.Value {
	whole := reflect.New(v.Type()).Elem()
	whole.Set(v)
	switch v.Kind() {
	case reflect.Struct:
		for i := range v.NumField() {
			whole.Field(i).Set(spared(v.Field(i)))
		}
	case reflect.Slice:
		whole = reflect.MakeSlice(v.Type(), v.Len(), v.Len()+2)
		for i := range v.Len() {
			whole.Index(i).Set(spared(v.Index(i)))
		}
		room := whole.Slice(0, whole.Cap())
		for i := v.Len(); i < room.Len(); i++ {
			mark(room.Index(i))
		}
	}
	return whole
}

// mark fills v with what is nowhere else.
func mark(v reflect.Value) {
	switch v.Kind() {
	case reflect.Struct:
		for i := range v.NumField() {
			mark(v.Field(i))
		}
	case reflect.Array:
		for i := range v.Len() {
			mark(v.Index(i))
		}
	case reflect.Int:
		v.SetInt(-77)
	case reflect.String:
		v.SetString("spare")
	}
}

// room is memory, from one address to another one.
type room struct{ from, to uintptr }

// rooms is all memory that x leads to, spare room too.
func rooms(x any) []room {
	var l []room
	var gather func(v reflect.Value)
	gather = func(v reflect.Value) {
		switch v.Kind() {
		case reflect.Struct:
			for i := range v.NumField() {
				gather(v.Field(i))
			}
		case reflect.Slice:
			v = v.Slice(0, v.Cap())
			if v.Len() > 0 {
				l = append(l, room{v.Pointer(), v.Pointer() + uintptr(v.Len())*v.Type().Elem().Size()})
			}
			for i := range v.Len() {
				gather(v.Index(i))
			}
		}
	}
	gather(reflect.ValueOf(x))
	return l
}

// apart is whether what is answered shares no memory: neither with what was handed in, nor in itself.
func apart(given []room, answers ...any) bool {
	var own []room
	for _, x := range answers {
		own = append(own, rooms(x)...)
	}
	for i, a := range own {
		for _, b := range slices.Concat(given, own[:i]) {
			if a.from < b.to && b.from < a.to {
				return false
			}
		}
	}
	return true
}

// held is registries, some of whose parts are one and the same memory, so that an answer must part them.
func held() []api.Registry {
	of, l := typ(`{a: enum ("x", "y"), r: {b: list (0 .. 1) of bool}}`), lenses("rename a to b; in r {rename b to c; rename c to b;}; rename b to a;")
	one := alike(4, join(0, 1, l...), join(2, 1, l...), join(2, 3, l...))
	for k := range one.Schemas {
		one.Schemas[k].Type = of
	}
	idle := lenses("rename a to b;")
	idle[0].Swaps, idle[0].Subs, idle[0].Type, idle[0].Doc = [][2]int{{1, 2}}, l, of, val("[[1], [2]]")
	two := registry("s: {a: bool}", "t: {b: bool}", "u: {b: bool}")
	two.Joins = []api.Join{join(0, 1, idle...), join(0, 2, idle...)}
	all := []api.Registry{{}, some(), one, two, alike(1), alike(12), alike(12, chain()...)}
	return append(all, randoms(5, 60)...)
}

// answers is what all calls tell of two registries.
func answers(r, other api.Registry, t api.Type, l []api.Lens) []any {
	var all []any
	keep := func(x any, _ api.Errno) { all = append(all, x) }
	keep(graph.AddSchema(r, "zz", t))
	for k := range r.Schemas {
		keep(graph.AddJoin(r, r.Schemas[0].Name, r.Schemas[k].Name, l))
		for to := range r.Schemas {
			keep(graph.Path(r, k, to))
		}
		all = append(all, graph.Around(r, k), graph.Component(r, k), graph.Find(r, r.Schemas[k].Name))
	}
	keep(graph.Union(r, other))
	keep(graph.Union(other, r))
	keep(graph.Union(r, r))
	all = append(all, graph.Copy(r), graph.Right(r), graph.Same(r, other), graph.Same(r, r))
	return all
}

func TestP10_5NothingIsChanged(t *testing.T) {
	x, l := roomy(typ(`{a: enum ("x", "y")}`)), roomy(lenses("rename a to b; rename b to a;"))
	all := held()
	for _, r := range append(wrongOnes(), all...) {
		r, other := roomy(r), roomy(all[len(all)/3])
		before := showRoom(r) + showRoom(other) + showRoom(x) + showRoom(l)
		answers(r, other, x, l)
		if showRoom(r)+showRoom(other)+showRoom(x)+showRoom(l) != before {
			t.Errorf("changed: %s", short(before))
		}
	}
}

// wrongOnes is those of wrong, in some order.
func wrongOnes() []api.Registry {
	var l []api.Registry
	for _, r := range wrong() {
		l = append(l, r)
	}
	return l
}

func TestP10_5AnswersAreNewMemory(t *testing.T) {
	x, l := roomy(typ(`{a: enum ("x", "y")}`)), roomy(lenses("rename a to b; rename b to a;"))
	all := held()
	for i, r := range all {
		other := roomy(all[(i+1)%len(all)])
		for _, r := range []api.Registry{r, roomy(r)} {
			given := slices.Concat(rooms(r), rooms(other), rooms(x), rooms(l))
			own := append(answers(r, other, x, l), answers(r, other, x, l)...)
			if !apart(given, own...) {
				t.Errorf("of %s", short(show(r)))
			}
		}
	}
}

// What is handed in, and what is answered, is written over: what else was answered stays, and is answered again.
func TestP10_5NothingIsKept(t *testing.T) {
	ask := func() (api.Registry, api.Registry, api.Type, []api.Lens) {
		l := lenses("rename a to b; rename b to a;")
		return alike(3, join(0, 1, l...)), registry("z: {a: bool}", "s1: {a: bool}", "y: {b: bool}", "1 > 2: rename a to b;"), typ(`{e: enum ("u", "v")}`), lenses("rename a to b; rename b to a;")
	}
	r, other, x, l := ask()
	first, given := answers(r, other, x, l), answers(r, other, x, l)
	before := show(given)
	overwrite(reflect.ValueOf(first))
	for _, x := range []any{r, other, x, l} {
		overwrite(reflect.ValueOf(x))
	}
	if show(given) != before {
		t.Errorf("%s, and not %s", short(show(given)), short(before))
	}
	r, other, x, l = ask()
	if got := show(answers(r, other, x, l)); got != before {
		t.Errorf("asked again: %s, and not %s", short(got), short(before))
	}
}

// overwrite puts zero to all places of all rows in v.
func overwrite(v reflect.Value) {
	switch v.Kind() {
	case reflect.Interface:
		overwrite(v.Elem())
	case reflect.Struct:
		for i := range v.NumField() {
			overwrite(v.Field(i))
		}
	case reflect.Slice:
		for i := range v.Len() {
			overwrite(v.Index(i))
			v.Index(i).SetZero()
		}
	}
}
