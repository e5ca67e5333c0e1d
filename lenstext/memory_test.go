package lenstext_test

import (
	"reflect"
	"testing"

	"cabochon/api"
	"cabochon/doc"
	"cabochon/lenstext"
)

// roomy is x with spare room behind all rows, in which something stands that must stay.
func roomy[T any](x T) T { return spared(reflect.ValueOf(&x).Elem()).Interface().(T) }

func spared(v reflect.Value) reflect.Value {
	whole := reflect.New(v.Type()).Elem()
	whole.Set(v)
	switch v.Kind() {
	case reflect.Struct:
		for i := range v.NumField() {
			whole.Field(i).Set(spared(v.Field(i)))
		}
	case reflect.Slice:
		whole = reflect.MakeSlice(v.Type(), v.Len(), v.Len()+2)
		for i := range v.Len() {
			whole.Index(i).Set(spared(v.Index(i)))
		}
		room := whole.Slice(0, whole.Cap())
		for i := v.Len(); i < room.Len(); i++ {
			mark(room.Index(i))
		}
	}
	return whole
}

// mark fills v with what is nowhere else.
func mark(v reflect.Value) {
	switch v.Kind() {
	case reflect.Struct:
		for i := range v.NumField() {
			mark(v.Field(i))
		}
	case reflect.Array:
		for i := range v.Len() {
			mark(v.Index(i))
		}
	case reflect.Int:
		v.SetInt(-77)
	case reflect.String:
		v.SetString("spare")
	}
}

// room is memory, from one address to another one.
type room struct{ from, to uintptr }

// rooms is all memory that x leads to, spare room too.
func rooms(x any) []room {
	var l []room
	var gather func(v reflect.Value)
	gather = func(v reflect.Value) {
		switch v.Kind() {
		case reflect.Struct:
			for i := range v.NumField() {
				gather(v.Field(i))
			}
		case reflect.Slice:
			v = v.Slice(0, v.Cap())
			if v.Len() > 0 {
				l = append(l, room{v.Pointer(), v.Pointer() + uintptr(v.Len())*v.Type().Elem().Size()})
			}
			for i := range v.Len() {
				gather(v.Index(i))
			}
		}
	}
	gather(reflect.ValueOf(x))
	return l
}

// apart is whether no memory of these answers is shared by two lists.
func apart(answers ...any) bool {
	var own []room
	for _, x := range answers {
		own = append(own, rooms(x)...)
	}
	for i, a := range own {
		for _, b := range own[:i] {
			if a.from < b.to && b.from < a.to {
				return false
			}
		}
	}
	return true
}

func TestP9_3PrintOnlyLooks(t *testing.T) {
	full := api.Lens{A: "a", B: "b", Type: enum("y", "x"), Doc: doc.List(doc.Rec([]string{"k"}, []api.Doc{doc.Bytes("x")})), Swaps: [][2]int{{4, 5}, {2, 3}}, Subs: steps(wrap("c"), add("z", enum("b", "a"), doc.Bytes("a")))}
	all := append(randoms(300), kinds()...)
	for kind := range 12 {
		full.Kind = kind
		all = append(all, steps(full, in("r", full, full)))
	}
	for _, l := range all {
		l = roomy(l)
		before := showRoom(l)
		lenstext.Print(l)
		for _, s := range l {
			lenstext.Step(s)
		}
		if showRoom(l) != before {
			t.Errorf("changed: %s", short(show(l)))
		}
	}
}

// overwrite puts something else to all places of l.
func overwrite(l []api.Lens) {
	for i := range l {
		overwrite(l[i].Subs)
		clear(l[i].Type.Names)
		clear(l[i].Swaps)
	}
	clear(l)
}

// No two lists that are answered share memory; and what is answered again is not what was written there.
func TestP9_3AnswersAreNewMemory(t *testing.T) {
	for _, l := range append(randoms(500), kinds()...) {
		s := told(l)
		if len(s) > api.MaxText {
			continue
		}
		one, _, _ := lenstext.Parse(s)
		two, _, _ := lenstext.Parse(s)
		if !apart(one, two) {
			t.Errorf("answers share memory: %s", short(s))
		}
		overwrite(one)
		want(t, s, two, l)
		wantRead(t, s, l)
	}
}
