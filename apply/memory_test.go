package apply_test

import (
	"reflect"
	"slices"
	"testing"

	"cabochon/api"
	"cabochon/apply"
	"cabochon/lens"
)

// roomy is x with spare room behind all rows, in which something stands that must stay.
func roomy[T any](x T) T { return spared(reflect.ValueOf(&x).Elem()).Interface().(T) }

func spared(v reflect.Value) reflect.Value {
	whole := reflect.New(v.Type()).Elem()
	whole.Set(v)
	switch v.Kind() {
	case reflect.Struct:
		for i := range v.NumField() {
			whole.Field(i).Set(spared(v.Field(i)))
		}
	case reflect.Slice:
		whole = reflect.MakeSlice(v.Type(), v.Len(), v.Len()+2)
		for i := range v.Len() {
			whole.Index(i).Set(spared(v.Index(i)))
		}
		room := whole.Slice(0, whole.Cap())
		for i := v.Len(); i < room.Len(); i++ {
			mark(room.Index(i))
		}
	}
	return whole
}

// mark fills v with what is nowhere else.
func mark(v reflect.Value) {
	switch v.Kind() {
	case reflect.Struct:
		for i := range v.NumField() {
			mark(v.Field(i))
		}
	case reflect.Array:
		for i := range v.Len() {
			mark(v.Index(i))
		}
	case reflect.Int:
		v.SetInt(-77)
	case reflect.String:
		v.SetString("spare")
	}
}

// room is memory, from one address to another one.
type room struct{ from, to uintptr }

// rooms is all memory that x leads to, spare room too.
func rooms(x any) []room {
	var l []room
	var gather func(v reflect.Value)
	gather = func(v reflect.Value) {
		switch v.Kind() {
		case reflect.Struct:
			for i := range v.NumField() {
				gather(v.Field(i))
			}
		case reflect.Slice:
			v = v.Slice(0, v.Cap())
			if v.Len() > 0 {
				l = append(l, room{v.Pointer(), v.Pointer() + uintptr(v.Len())*v.Type().Elem().Size()})
			}
			for i := range v.Len() {
				gather(v.Index(i))
			}
		}
	}
	gather(reflect.ValueOf(x))
	return l
}

// apart is whether what is answered shares no memory: neither with what was handed in, nor in itself.
func apart(given []room, answers ...any) bool {
	var own []room
	for _, x := range answers {
		own = append(own, rooms(x)...)
	}
	for i, a := range own {
		for _, b := range slices.Concat(given, own[:i]) {
			if a.from < b.to && b.from < a.to {
				return false
			}
		}
	}
	return true
}

// asked is all that is handed in to a call.
type asked struct {
	t    api.Type
	l    []api.Lens
	back bool
	s    api.State
	x    api.Res
}

// held is what calls are asked of: much of it is one and the same memory, so that an answer must part it.
func held() []asked {
	r, number := chance(31, 32), "int (0 .. 9)"
	twice := steps(add("y", number, "1"), remove("x", "bool", "true"), wrap("y"), in("s", rename("o", "p")))
	x := typ("{x: bool, s: {o?: list (0 .. 3) of bool}}")
	d := val("{x = true, s = {o = [true, false]}}")
	both := typ("{d: dict (0 .. 9) of bool, r: bool}")
	both.Fields[0].Type.Of[0], both.Fields[1].Type = x, x
	whole := val(`{d = <"k": 1, "l": 1>, r = 1}`)
	whole.Kids[0].Kids[0], whole.Kids[0].Kids[1], whole.Kids[1] = d, d, d
	l := steps(in("r", twice...), each("d", twice...), hoist("r", "y"), plunge("r", "y"))
	step, keys := place(1, 0), []string{"k"}
	s := api.State{Doc: whole, Res: res(left(0, step, "[[1]]", keys...), left(edge, step, "5", keys...), left(9, step, "<>", keys...))}
	s.Res[2].Doc = whole
	all := []asked{{both, l, false, s, s.Res[1]}, {both, nil, false, s, s.Res[0]}, {both, l, true, s, left(1, nil, "1")}, {x, twice, false, api.State{Doc: d}, s.Res[2]}}
	made, _ := apply.Go(both, l, edge, false, s)
	to, _, _ := lens.Target(both, l)
	all = append(all, asked{to, l, true, made, left(edge, place(99), "{a = [1]}", "k")})
	for _, c := range randoms(37, 300) {
		all = append(all, asked{c.t, c.l, false, api.State{Doc: c.d, Res: randomRes(r, c, false)}, left(edge, place(0), "[1]")})
	}
	return all
}

func TestP8_4HeldIsTaken(t *testing.T) {
	for i, c := range held()[:5] {
		if got, err := apply.Go(c.t, c.l, edge, c.back, c.s); (err != api.OK) != (i == 2) || i != 2 && i != 3 && len(got.Res) < 3 {
			t.Errorf("%d: %v, %s", i, err, show(got))
		}
	}
}

func TestP8_4NothingIsChanged(t *testing.T) {
	for _, given := range held() {
		c := asked{roomy(given.t), roomy(given.l), given.back, roomy(given.s), roomy(given.x)}
		before := showRoom(c.t) + showRoom(c.l) + showRoom(c.s) + showRoom(c.x)
		apply.Less(c.x, c.x)
		apply.Right(c.s.Res)
		apply.Find(c.s.Res, c.x.Edge, c.x.Step, c.x.At)
		apply.Put(c.s.Res, c.x)
		apply.Drop(c.s.Res, c.x.Edge, c.x.Step, c.x.At)
		apply.Same(c.s, given.s)
		apply.Copy(c.s)
		apply.Go(c.t, c.l, edge, c.back, c.s)
		apply.Needs(c.t, c.l, edge, c.back, c.s.Doc)
		if showRoom(c.t)+showRoom(c.l)+showRoom(c.s)+showRoom(c.x) != before {
			t.Errorf("changed: %s", short(before))
		}
	}
}

func TestP8_4AnswersAreNewMemory(t *testing.T) {
	for _, c := range held() {
		for _, c := range []asked{c, {roomy(c.t), roomy(c.l), c.back, roomy(c.s), roomy(c.x)}} {
			given := rooms(c)
			one, _ := apply.Go(c.t, c.l, edge, c.back, c.s)
			two, _ := apply.Go(c.t, c.l, edge, c.back, c.s)
			if !apart(given, one, two) {
				t.Errorf("Go: %s, %s", short(show(c.s)), short(show(c.l)))
			}
			if !apart(given, apply.Needs(c.t, c.l, edge, c.back, c.s.Doc), apply.Needs(c.t, c.l, edge, c.back, c.s.Doc)) {
				t.Errorf("Needs: %s, %s", short(show(c.s)), short(show(c.l)))
			}
			if !apart(given, apply.Put(c.s.Res, c.x), apply.Put(c.s.Res, c.x)) || !apart(given, apply.Copy(c.s), apply.Copy(c.s)) {
				t.Errorf("Put, or Copy: %s", short(show(c.s)))
			}
			if !apart(given, apply.Drop(c.s.Res, c.x.Edge, c.x.Step, c.x.At), apply.Drop(c.s.Res, 1, nil, nil)) {
				t.Errorf("Drop: %s", short(show(c.s)))
			}
		}
	}
}

// What is handed in is written over: what was answered stays, and is answered again.
func TestP8_4NothingIsKept(t *testing.T) {
	ask := func() asked {
		return asked{typ("{r: {x: list (0 .. 3) of bool}}"), steps(in("r", rename("x", "z")), add("a", `enum ("u", "v")`, `"u"`)), false, state("{r = {x = [true]}}", left(1, place(2), "[5]", "k")), left(1, place(3), "{a = [5]}", "k")}
	}
	c := ask()
	made, _ := apply.Go(c.t, c.l, edge, false, c.s)
	needs := apply.Needs(c.t, c.l, edge, false, c.s.Doc)
	whole, more, less := apply.Copy(c.s), apply.Put(c.s.Res, c.x), apply.Drop(c.s.Res, 9, nil, nil)
	told := func() string { return show(made) + show(needs) + show(whole) + show(more) + show(less) }
	before := told()
	c.t.Fields[0].Name, c.l[0].Subs[0].B, c.l[1].Type.Names[0], c.l[1].Doc.Str = "changed", "changed", "changed", "changed"
	c.s.Doc.Kids[0].Keys[0], c.s.Doc.Kids[0].Kids[0].Kids[0].Num = "changed", 0
	for _, x := range []api.Res{c.s.Res[0], c.x} {
		x.Step[0], x.At[0], x.Doc.Kids[0] = 77, "changed", api.Doc{}
	}
	if told() != before {
		t.Errorf("%s, and not %s", told(), before)
	}
	c = ask()
	again, _ := apply.Go(c.t, c.l, edge, false, c.s)
	want(t, "asked again", again, made)
}
