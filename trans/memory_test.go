package trans_test

import (
	"reflect"
	"slices"
	"testing"

	"cabochon/api"
	"cabochon/trans"
)

// roomy is x with spare room behind all rows, in which something stands that must stay.
func roomy[T any](x T) T { return spared(reflect.ValueOf(&x).Elem()).Interface().(T) }

func spared(v reflect.Value) reflect.Value {
	whole := reflect.New(v.Type()).Elem()
	whole.Set(v)
	switch v.Kind() {
	case reflect.Struct:
		for i := range v.NumField() {
			whole.Field(i).Set(spared(v.Field(i)))
		}
	case reflect.Slice:
		whole = reflect.MakeSlice(v.Type(), v.Len(), v.Len()+2)
		for i := range v.Len() {
			whole.Index(i).Set(spared(v.Index(i)))
		}
		room := whole.Slice(0, whole.Cap())
		for i := v.Len(); i < room.Len(); i++ {
			mark(room.Index(i))
		}
	}
	return whole
}

// mark fills v with what is nowhere else.
func mark(v reflect.Value) {
	switch v.Kind() {
	case reflect.Struct:
		for i := range v.NumField() {
			mark(v.Field(i))
		}
	case reflect.Array:
		for i := range v.Len() {
			mark(v.Index(i))
		}
	case reflect.Int:
		v.SetInt(-77)
	case reflect.String:
		v.SetString("spare")
	}
}

// room is memory, from one address to another one.
type room struct{ from, to uintptr }

// rooms is all memory that x leads to, spare room too.
func rooms(x any) []room {
	var l []room
	var gather func(v reflect.Value)
	gather = func(v reflect.Value) {
		switch v.Kind() {
		case reflect.Struct:
			for i := range v.NumField() {
				gather(v.Field(i))
			}
		case reflect.Slice:
			v = v.Slice(0, v.Cap())
			if v.Len() > 0 {
				l = append(l, room{v.Pointer(), v.Pointer() + uintptr(v.Len())*v.Type().Elem().Size()})
			}
			for i := range v.Len() {
				gather(v.Index(i))
			}
		}
	}
	gather(reflect.ValueOf(x))
	return l
}

// apart is whether what is answered shares no memory: neither with what was handed in, nor in itself.
func apart(given []room, answers ...any) bool {
	var own []room
	for _, x := range answers {
		own = append(own, rooms(x)...)
	}
	for i, a := range own {
		for _, b := range slices.Concat(given, own[:i]) {
			if a.from < b.to && b.from < a.to {
				return false
			}
		}
	}
	return true
}

// held is states, some of whose parts are one and the same memory, so that an answer must part them, at registries of which that is so, too.
func held() []at {
	l := lenses("rename a to b; in r {rename b to c;}; rename b to a;")
	one, two := typ("{a: list (0 .. 3) of bool, r: {b: list (0 .. 3) of bool}}"), typ("{a: list (0 .. 3) of bool, r: {c: list (0 .. 3) of bool}}")
	r := api.Registry{Joins: []api.Join{join(0, 1, l...), join(0, 2, l...)}}
	for k, t := range []api.Type{one, two, two, one} {
		r.Schemas = append(r.Schemas, api.Named{Name: name(k), Type: t})
	}
	d := val("{a = [true, false], r = {b = 1}}")
	d.Kids[1].Kids[0] = d.Kids[0]
	step, keys := place(1, 0), []string{"k"}
	s := api.State{Doc: d, Res: res(left(7, step, "[[1]]", keys...), left(8, step, "5", keys...), left(9, step, "<>", keys...))}
	s.Res[2].Doc = d
	h := hosts()
	h.Joins[1].Lens[0].Type, h.Joins[1].Lens[1].Subs[0].Doc = h.Schemas[2].Type.Fields[1].Type, val("80")
	all := []at{{r, 0, s}, {r, 3, s}, {h, 0, state(`{h = <"a": {port = 1}, "b": {port = 2}>, n = 3}`, left(0, place(0, 0), "false", "b"))}, {some(), 5, state("{a = 3}", s.Res...)}}
	return append(all, randoms(31, 40)...)
}

// answers is what all calls tell, of all schemas.
func answers(x at) []any {
	var all []any
	keep := func(s api.State, err api.Errno) {
		all = append(all, s, err)
	}
	for k := range x.r.Schemas {
		keep(trans.Go(x.r, x.k, k, x.s))
		d, err := trans.Seen(x.r, x.k, k, x.s)
		all = append(all, d, err)
		keep(trans.Fill(x.r, k, x.s))
		keep(trans.Start(x.r, k, x.s.Doc))
		keep(trans.Edit(x.r, x.k, k, x.s, d))
		keep(trans.Edit(x.r, x.k, k, x.s, x.s.Doc))
		all = append(all, trans.Whole(x.r, k, x.s))
	}
	return all
}

func TestP11_5HeldIsTaken(t *testing.T) {
	for i, x := range held() {
		if made, err := trans.Fill(x.r, x.k, x.s); err != api.OK || i < 4 && len(made.Res) < 2 {
			t.Errorf("%d: %v, %s", i, err, show(made))
		}
	}
}

func TestP11_5NothingIsChanged(t *testing.T) {
	for _, x := range held() {
		x.r, x.s = roomy(x.r), roomy(x.s)
		before := showRoom(x.r) + showRoom(x.s)
		answers(x)
		if showRoom(x.r)+showRoom(x.s) != before {
			t.Errorf("changed: %s", short(before))
		}
	}
	for _, r := range wrong() {
		x := at{roomy(r), 0, roomy(state("{a = true}", left(0, place(0), "1")))}
		before := showRoom(x.r) + showRoom(x.s)
		answers(x)
		if showRoom(x.r)+showRoom(x.s) != before {
			t.Errorf("changed: %s", short(before))
		}
	}
}

func TestP11_5AnswersAreNewMemory(t *testing.T) {
	for _, x := range held() {
		for _, x := range []at{x, {roomy(x.r), x.k, roomy(x.s)}} {
			if !apart(append(rooms(x.r), rooms(x.s)...), append(answers(x), answers(x)...)...) {
				t.Errorf("at %d, %s, of %s", x.k, short(show(x.s)), short(show(x.r)))
			}
		}
	}
}

// What is handed in, and what is answered, is written over: what else was answered stays, and is answered again.
func TestP11_5NothingIsKept(t *testing.T) {
	for i := range held() {
		x := held()[i]
		first, given := answers(x), answers(x)
		before := show(given)
		overwrite(reflect.ValueOf(first))
		overwrite(reflect.ValueOf(x.r))
		overwrite(reflect.ValueOf(x.s))
		if show(given) != before {
			t.Errorf("%s, and not %s", short(show(given)), short(before))
		}
		if got := show(answers(held()[i])); got != before {
			t.Errorf("asked again: %s, and not %s", short(got), short(before))
		}
		if i == 5 { // the others are of the same kind
			return
		}
	}
}

// overwrite puts zero to all places of all rows in v.
func overwrite(v reflect.Value) {
	switch v.Kind() {
	case reflect.Interface:
		overwrite(v.Elem())
	case reflect.Struct:
		for i := range v.NumField() {
			overwrite(v.Field(i))
		}
	case reflect.Slice:
		for i := range v.Len() {
			overwrite(v.Index(i))
			v.Index(i).SetZero()
		}
	}
}
