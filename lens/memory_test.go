package lens_test

import (
	"reflect"
	"slices"
	"testing"

	"cabochon/api"
	"cabochon/lens"
)

// roomy is x with spare room behind all rows, in which something stands that must stay.
func roomy[T any](x T) T { return spared(reflect.ValueOf(&x).Elem()).Interface().(T) }

func spared(v reflect.Value) reflect.Value {
	whole := reflect.New(v.Type()).Elem()
	whole.Set(v)
	switch v.Kind() {
	case reflect.Struct:
		for i := range v.NumField() {
			whole.Field(i).Set(spared(v.Field(i)))
		}
	case reflect.Slice:
		whole = reflect.MakeSlice(v.Type(), v.Len(), v.Len()+2)
		for i := range v.Len() {
			whole.Index(i).Set(spared(v.Index(i)))
		}
		room := whole.Slice(0, whole.Cap())
		for i := v.Len(); i < room.Len(); i++ {
			mark(room.Index(i))
		}
	}
	return whole
}

// mark fills v with what is nowhere else.
func mark(v reflect.Value) {
	switch v.Kind() {
	case reflect.Struct:
		for i := range v.NumField() {
			mark(v.Field(i))
		}
	case reflect.Array:
		for i := range v.Len() {
			mark(v.Index(i))
		}
	case reflect.Int:
		v.SetInt(-77)
	case reflect.String:
		v.SetString("spare")
	}
}

// room is memory, from one address to another one.
type room struct{ from, to uintptr }

// rooms is all memory that x leads to, spare room too.
func rooms(x any) []room {
	var l []room
	var gather func(v reflect.Value)
	gather = func(v reflect.Value) {
		switch v.Kind() {
		case reflect.Struct:
			for i := range v.NumField() {
				gather(v.Field(i))
			}
		case reflect.Slice:
			v = v.Slice(0, v.Cap())
			if v.Len() > 0 {
				l = append(l, room{v.Pointer(), v.Pointer() + uintptr(v.Len())*v.Type().Elem().Size()})
			}
			for i := range v.Len() {
				gather(v.Index(i))
			}
		}
	}
	gather(reflect.ValueOf(x))
	return l
}

// apart is whether what is answered shares no memory: neither with what was handed in, nor in itself.
func apart(given []room, answers ...any) bool {
	var own []room
	for _, x := range answers {
		own = append(own, rooms(x)...)
	}
	for i, a := range own {
		for _, b := range slices.Concat(given, own[:i]) {
			if a.from < b.to && b.from < a.to {
				return false
			}
		}
	}
	return true
}

// held is records and lenses, some of whose parts are one and the same memory, so that an answer must part them.
func held() []made {
	of := typ(`enum ("x", "y")`)
	r := wide(0, field("x", of), field("y", of))
	t := wide(0, field("a", of), field("b", of), field("d", api.Type{Kind: api.TDict, Hi: 2, Of: []api.Type{r}}), field("r", r), field("s", r))
	put := api.Lens{Kind: api.LAdd, A: "z", Type: of, Doc: val(`"x"`)}
	twice := steps(put, wrap("x"), api.Lens{Kind: api.LRemove, A: "y", Type: of, Doc: val(`"x"`)})
	l := []made{
		{t, nil}, {r, twice}, {t, twice[:1]},
		{t, steps(in("r", twice...), in("s", twice...), each("d", twice...), put)},
		{t, steps(hoist("r", "x"), plunge("s", "a"), rename("b", "c"), wrap("c"))},
		{t, steps(hoist("r", "x"), api.Lens{}, in("s", twice...))},
		{api.Type{}, steps(api.Lens{Swaps: pairs(4), Type: t, Doc: val(`[<"k": "x">, {a = [1]}]`), Subs: steps(full(), full())})},
		{typ("{a: int (0 .. 9)}"), steps(convert("a", pairs(4)...), convert("a", pairs(5)...))},
		{typ("{a: list (1 .. 1) of bytes (0 .. 1)}"), steps(head("a"), wrap("a"))},
	}
	return append(l, randoms(400)...)
}

func TestP7_4NothingIsChanged(t *testing.T) {
	for _, c := range held() {
		x, l, swaps := roomy(c.t), roomy(c.l), roomy(pairs(9))
		before := showRoom(x) + showRoom(l) + showRoom(swaps)
		lens.Target(x, l)
		lens.Back(l)
		lens.Size(l)
		lens.Depth(l)
		lens.Same(l, l)
		lens.Same(l, c.l)
		lens.Copy(l)
		lens.Swap(7, swaps)
		lens.Lossless(l)
		if showRoom(x)+showRoom(l)+showRoom(swaps) != before {
			t.Errorf("changed: %s", short(before))
		}
	}
}

func TestP7_4AnswersAreNewMemory(t *testing.T) {
	for _, c := range held() {
		x, l := roomy(c.t), roomy(c.l)
		for _, given := range []made{c, {x, l}} {
			one, _, _ := lens.Target(given.t, given.l)
			two, _, _ := lens.Target(given.t, given.l)
			if !apart(rooms(given), one, two) {
				t.Errorf("Target: %s, %s", short(show(c.t)), short(show(c.l)))
			}
			if !apart(rooms(given), lens.Back(given.l), lens.Back(given.l)) {
				t.Errorf("Back: %s", short(show(c.l)))
			}
			if !apart(rooms(given), lens.Copy(given.l), lens.Copy(given.l)) {
				t.Errorf("Copy: %s", short(show(c.l)))
			}
		}
	}
}

// What is handed in is written over: what was answered stays, and is answered again.
func TestP7_4NothingIsKept(t *testing.T) {
	x, l := typ(`{a: enum ("x", "y"), r: {x: bool}}`), steps(hoist("r", "x"), add("z", `enum ("u")`, `"u"`), in("r", add("y", "bool", "true")), rename("a", "b"))
	made, _, _ := lens.Target(x, l)
	back, whole := lens.Back(l), lens.Copy(l)
	before := show(made) + show(back) + show(whole)
	x.Fields[0].Type.Names[0], x.Fields[1].Name = "changed", "changed"
	l[1].Type.Names[0], l[2].Subs[0].A, l[3] = "changed", "changed", api.Lens{}
	if show(made)+show(back)+show(whole) != before {
		t.Errorf("%s, %s, %s", show(made), show(back), show(whole))
	}
	again, _, err := lens.Target(typ(`{a: enum ("x", "y"), r: {x: bool}}`), whole)
	if err != api.OK {
		t.Error(err)
	}
	want(t, "asked again", again, made)
}
