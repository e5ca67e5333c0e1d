package snap_test

import (
	"reflect"
	"slices"
	"testing"

	"cabochon/api"
	"cabochon/snap"
)

// roomy is x with spare room behind all rows, in which something stands that must stay.
func roomy[T any](x T) T { return spared(reflect.ValueOf(&x).Elem()).Interface().(T) }

func spared(v reflect.Value) reflect.Value {
	whole := reflect.New(v.Type()).Elem()
	whole.Set(v)
	switch v.Kind() {
	case reflect.Struct:
		for i := range v.NumField() {
			whole.Field(i).Set(spared(v.Field(i)))
		}
	case reflect.Slice:
		whole = reflect.MakeSlice(v.Type(), v.Len(), v.Len()+2)
		for i := range v.Len() {
			whole.Index(i).Set(spared(v.Index(i)))
		}
		room := whole.Slice(0, whole.Cap())
		for i := v.Len(); i < room.Len(); i++ {
			mark(room.Index(i))
		}
	}
	return whole
}

// mark fills v with what is nowhere else.
func mark(v reflect.Value) {
	switch v.Kind() {
	case reflect.Struct:
		for i := range v.NumField() {
			mark(v.Field(i))
		}
	case reflect.Array:
		for i := range v.Len() {
			mark(v.Index(i))
		}
	case reflect.Int:
		v.SetInt(-77)
	case reflect.String:
		v.SetString("spare")
	}
}

// room is memory, from one address to another one.
type room struct{ from, to uintptr }

// rooms is all memory that x leads to, spare room too.
func rooms(x any) []room {
	var l []room
	var gather func(v reflect.Value)
	gather = func(v reflect.Value) {
		switch v.Kind() {
		case reflect.Struct:
			for i := range v.NumField() {
				gather(v.Field(i))
			}
		case reflect.Slice:
			v = v.Slice(0, v.Cap())
			if v.Len() > 0 {
				l = append(l, room{v.Pointer(), v.Pointer() + uintptr(v.Len())*v.Type().Elem().Size()})
			}
			for i := range v.Len() {
				gather(v.Index(i))
			}
		}
	}
	gather(reflect.ValueOf(x))
	return l
}

// apart is whether what is answered shares no memory: neither with what was handed in, nor in itself.
func apart(given []room, answers ...any) bool {
	var own []room
	for _, x := range answers {
		own = append(own, rooms(x)...)
	}
	for i, a := range own {
		for _, b := range slices.Concat(given, own[:i]) {
			if a.from < b.to && b.from < a.to {
				return false
			}
		}
	}
	return true
}

// asked is a snapshot, and what its calls are given.
type asked struct {
	s       api.Snap
	docs    []api.Doc // to be written, by any schema into any file
	t       api.Type
	lens    []api.Lens // from one schema to another one, and of one type
	to      [2]string
	l, more []api.Res
}

// entwined is snapshots, some of whose parts are one and the same memory, and the same as what calls are given, so that an answer must part them.
func entwined() []asked {
	l := lenses("rename a to b; in r {rename b to c;}; rename b to a;")
	one, two := typ("{a: list (0 .. 3) of bool, r: {b: list (0 .. 3) of bool}}"), typ("{a: list (0 .. 3) of bool, r: {c: list (0 .. 3) of bool}}")
	r := api.Registry{Joins: []api.Join{join(0, 1, l...), join(0, 2, l...)}}
	for k, t := range []api.Type{one, two, two, one} {
		r.Schemas = append(r.Schemas, api.Named{Name: name(k), Type: t})
	}
	d := val("{a = [true, false], r = {b = 1}}")
	d.Kids[1].Kids[0] = d.Kids[0]
	s := snapshot(r)
	for i, k := range []int{0, 0, 3} {
		s.Files = append(s.Files, api.File{Name: name(i), Schema: k, State: api.State{Doc: d}})
	}
	h := hosted()
	h.Files[0].State.Res[0].Step = h.Files[0].State.Res[1].Step[:1:1]
	h.Files[0].State.Res[0].Step = place(1)
	h = with(h, 1, 1, api.File{Name: "g", Schema: 1, State: h.Files[0].State}, api.File{Name: "h", Schema: 1, State: h.Files[0].State})
	docs := []api.Doc{h.Files[0].State.Doc, val(`{h = <"b": {port = 1}, "c": {port = 2}>, n = 3}`), val(`{h = <"b": {tls = true}, "c": {tls = false}>, m = "y"}`)}
	more := slices.Concat(h.Files[0].State.Res, h.Files[1].State.Res, res(left(0, place(0, 0), "true", "a")))
	f := declared(held(), "y", "{a: int (0 .. 9), d: bool}")
	add := lenses("add d: bool = true;")
	return []asked{
		{s, []api.Doc{d, val("{a = [true, false], r = {c = []}}")}, one, l, [2]string{"s0", "s3"}, nil, nil},
		{s, []api.Doc{d}, two, nil, [2]string{"s3", "s0"}, nil, nil},
		{h, docs, h.Reg.Schemas[1].Type, h.Reg.Joins[0].Lens, [2]string{"s", "t"}, h.Files[0].State.Res, h.Files[1].State.Res},
		{h, docs, h.Reg.Schemas[2].Type, nil, [2]string{"s", "t"}, more, more},
		{f, []api.Doc{f.Files[0].State.Doc, f.Files[1].State.Doc, f.Files[2].State.Doc}, f.Reg.Schemas[0].Type, add, [2]string{"s", "y"}, f.Files[0].State.Res, f.Files[0].State.Res},
		{f, []api.Doc{val("{a = 1, b = true}")}, f.Reg.Schemas[0].Type, add, [2]string{"x", "y"}, many(1, 3), many(1, 5)[2:]},
		{full(), nil, typ("{}"), nil, [2]string{"s", "x"}, nil, nil},
	}
}

func (x asked) roomy() asked {
	return asked{roomy(x.s), roomy(x.docs), roomy(x.t), roomy(x.lens), x.to, roomy(x.l), roomy(x.more)}
}

func (x asked) rooms() []room {
	return slices.Concat(rooms(x.s), rooms(x.docs), rooms(x.t), rooms(x.lens), rooms(x.l), rooms(x.more))
}

// answers is what all calls tell, of all files and schemas, and of some that are not there.
func (x asked) answers() []any {
	all := []any{snap.Right(x.s), snap.Copy(x.s), snap.Same(x.s, x.s), snap.Kept(x.l, x.more), snap.Kept(x.more, x.l)}
	keep := func(s api.Snap, err api.Errno) { all = append(all, s, err) }
	keep(snap.Declare(x.s, "zz", x.t))
	keep(snap.Declare(x.s, "s", x.t))
	keep(snap.Join(x.s, x.to[0], x.to[1], x.lens))
	for _, f := range append(slices.Clone(x.s.Files), named("zz")) {
		all = append(all, snap.Find(x.s, f.Name))
		keep(snap.Drop(x.s, f.Name))
		for _, k := range x.s.Reg.Schemas {
			d, err := snap.Read(x.s, f.Name, k.Name)
			all = append(all, d, err)
			keep(snap.Migrate(x.s, f.Name, k.Name))
			for _, d := range x.docs {
				keep(snap.Write(x.s, f.Name, k.Name, d))
			}
		}
	}
	return all
}

// The calls of these snapshots do something, most of them.
func TestP13_5EntwinedIsTaken(t *testing.T) {
	for i, x := range entwined() {
		took := 0
		for _, told := range x.answers() {
			if told == api.OK {
				took++
			}
		}
		if !snap.Right(x.s) || took < 8 {
			t.Errorf("%d: right: %v, taken: %d", i, snap.Right(x.s), took)
		}
		if _, err := snap.Join(x.s, x.to[0], x.to[1], x.lens); (err == api.OK) != (i == 1 || i > 3) {
			t.Errorf("%d: %v", i, err)
		}
	}
}

func TestP13_5NothingIsChanged(t *testing.T) {
	t.Parallel()
	for _, x := range entwined() {
		x = x.roomy()
		before := showRoom(x)
		x.answers()
		if showRoom(x) != before {
			t.Errorf("changed: %s", short(before))
		}
	}
	for what, s := range wrongs() {
		x := asked{s: s, docs: []api.Doc{val("{a = 5}"), {}}, l: many(1, 2), more: many(2, 3)}.roomy()
		before := showRoom(x)
		x.answers()
		if showRoom(x) != before {
			t.Errorf("%s: changed: %s", what, short(before))
		}
	}
	for _, a := range unlike() {
		a, b := roomy(a), roomy(a)
		before := showRoom(a) + showRoom(b)
		snap.Copy(a)
		if !snap.Same(a, b) || showRoom(a)+showRoom(b) != before {
			t.Errorf("changed: %s", short(before))
		}
	}
}

func TestP13_5AnswersAreNewMemory(t *testing.T) {
	t.Parallel()
	for i, x := range entwined() {
		for _, x := range []asked{x, x.roomy()} {
			if !apart(x.rooms(), append(x.answers(), x.answers()...)...) {
				t.Errorf("%d: %s", i, short(show(x)))
			}
		}
	}
	for what, s := range wrongs() {
		if s = roomy(s); !apart(rooms(s), snap.Copy(s), snap.Copy(s)) {
			t.Errorf("%s: a copy", what)
		}
	}
}

// What is handed in, and what is answered, is written over: what else was answered stays, and is answered again.
func TestP13_5NothingIsKept(t *testing.T) {
	t.Parallel()
	for i, whole := range entwined() {
		x := whole.roomy()
		first, told := x.answers(), x.answers()
		before := show(told)
		overwrite(reflect.ValueOf(first))
		for _, row := range []any{x.s, x.docs, x.t, x.lens, x.l, x.more} {
			overwrite(reflect.ValueOf(row))
		}
		if show(told) != before {
			t.Errorf("%d: %s, and not %s", i, short(show(told)), short(before))
		}
		if got := show(whole.answers()); got != before {
			t.Errorf("%d: asked again: %s, and not %s", i, short(got), short(before))
		}
	}
}

// overwrite puts zero to all places of all rows in v.
func overwrite(v reflect.Value) {
	switch v.Kind() {
	case reflect.Interface:
		overwrite(v.Elem())
	case reflect.Struct:
		for i := range v.NumField() {
			overwrite(v.Field(i))
		}
	case reflect.Slice:
		for i := range v.Len() {
			overwrite(v.Index(i))
			v.Index(i).SetZero()
		}
	}
}
