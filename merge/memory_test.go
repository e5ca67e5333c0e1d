package merge_test

import (
	"reflect"
	"slices"
	"testing"

	"cabochon/api"
	"cabochon/merge"
)

// roomy is x with spare room behind all rows, in which something stands that must stay.
func roomy[T any](x T) T { return spared(reflect.ValueOf(&x).Elem()).Interface().(T) }

func spared(v reflect.Value) reflect.Value {
	whole := reflect.New(v.Type()).Elem()
	whole.Set(v)
	switch v.Kind() {
	case reflect.Struct:
		for i := range v.NumField() {
			whole.Field(i).Set(spared(v.Field(i)))
		}
	case reflect.Array:
		for i := range v.Len() {
			whole.Index(i).Set(spared(v.Index(i)))
		}
	case reflect.Slice:
		whole = reflect.MakeSlice(v.Type(), v.Len(), v.Len()+2)
		for i := range v.Len() {
			whole.Index(i).Set(spared(v.Index(i)))
		}
		room := whole.Slice(0, whole.Cap())
		for i := v.Len(); i < room.Len(); i++ {
			mark(room.Index(i))
		}
	}
	return whole
}

// mark fills v with what is nowhere else.
func mark(v reflect.Value) {
	switch v.Kind() {
	case reflect.Struct:
		for i := range v.NumField() {
			mark(v.Field(i))
		}
	case reflect.Array:
		for i := range v.Len() {
			mark(v.Index(i))
		}
	case reflect.Int:
		v.SetInt(-77)
	case reflect.String:
		v.SetString("spare")
	}
}

// room is memory, from one address to another one.
type room struct{ from, to uintptr }

// rooms is all memory that x leads to, spare room too.
func rooms(x any) []room {
	var l []room
	var gather func(v reflect.Value)
	gather = func(v reflect.Value) {
		switch v.Kind() {
		case reflect.Struct:
			for i := range v.NumField() {
				gather(v.Field(i))
			}
		case reflect.Slice:
			v = v.Slice(0, v.Cap())
			if v.Len() > 0 {
				l = append(l, room{v.Pointer(), v.Pointer() + uintptr(v.Len())*v.Type().Elem().Size()})
			}
			for i := range v.Len() {
				gather(v.Index(i))
			}
		}
	}
	gather(reflect.ValueOf(x))
	return l
}

// apart is whether what is answered shares no memory: neither with what was handed in, nor in itself.
func apart(given []room, answers ...any) bool {
	var own []room
	for _, x := range answers {
		own = append(own, rooms(x)...)
	}
	for i, a := range own {
		for _, b := range slices.Concat(given, own[:i]) {
			if a.from < b.to && b.from < a.to {
				return false
			}
		}
	}
	return true
}

// given is what the calls are handed, which come to outcomes of each kind.
type given struct {
	r     api.Registry
	k     int
	s     [3]api.State
	takes []int
}

// held is such, some of whose parts are one and the same memory, so that an answer must part them.
func held() []given {
	path, step := []string{"k", "l"}, place(1, 0)
	list := val("[1, 2]")
	d := val("{a = 1, b = 1}")
	d.Kids[0], d.Kids[1] = list, list
	res := []api.Res{left(7, step, "5", path...), left(8, step, "5", path...), left(9, step, "<>", path...)}
	res[0].Doc, res[2].Doc = list, list
	s := api.State{Doc: d, Res: res}
	other := api.State{Doc: val("{a = [1, 2], b = []}"), Res: []api.Res{left(7, step, "6", path...), left(8, step, "6", path...), left(9, step, "7", path...)}}
	third := api.State{Doc: val("{a = [2], b = [1]}"), Res: []api.Res{left(7, step, "7", path...), left(8, step, "5", path...), left(9, step, "{}", path...)}}
	r := one("{a: list (0 .. 2) of int (0 .. 9), b: list (0 .. 2) of int (0 .. 9)}")
	all := []given{
		{r, 0, [3]api.State{s, s, s}, nil},
		{r, 0, [3]api.State{s, other, s}, []int{1}},
		{r, 0, [3]api.State{s, other, third}, []int{2, 3, 3}},
		{r, 0, [3]api.State{{Doc: d}, {Doc: d}, {Doc: d}}, nil},
		{r, 0, [3]api.State{{Doc: d}, {Doc: other.Doc}, {Doc: third.Doc}}, []int{1, 2, 0}},
		{hosts(), 0, [3]api.State{
			state(`{h = <"a": {port = 1}>, n = 3}`, left(0, place(0, 0), "true", "a"), left(1, place(0), `"x"`)),
			state(`{h = <"a": {port = 1}, "b": {port = 2}>, n = 3}`, left(0, place(0, 0), "false", "a"), left(0, place(0, 0), "true", "b"), left(1, place(0), `"x"`)),
			state(`{h = <"a": {port = 4}, "b": {port = 2}>, n = 3}`, left(0, place(0, 0), "true", "a"), left(0, place(0, 0), "false", "b"), left(1, place(0), `"y"`)),
		}, []int{2}},
	}
	for _, x := range trios(31, 40) {
		all = append(all, given{x.r, x.k, x.s, []int{2, 0, 1, 5, 1}})
	}
	return all
}

func (x given) roomy() given { return given{roomy(x.r), x.k, roomy(x.s), roomy(x.takes)} }

// answers is what all calls tell.
func (x given) answers() []any {
	three, pick := merge.Three(x.r, x.k, x.s[0], x.s[1], x.s[2]), merge.Pick(x.r, x.k, x.s[0], x.s[1], x.s[2], x.takes)
	all := []any{three, pick, merge.Same(three, pick)}
	for to := range x.r.Schemas {
		across, err := merge.Across(x.r, to, [3]int{x.k, x.k, x.k}, x.s)
		all = append(all, across, err)
	}
	return all
}

func (x given) rooms() []room {
	return slices.Concat(rooms(x.r), rooms(x.s[0]), rooms(x.s[1]), rooms(x.s[2]), rooms(x.takes))
}

func TestP12_4HeldIsMerged(t *testing.T) {
	t.Parallel()
	came := map[int]int{}
	for _, x := range held() {
		for _, o := range x.answers() {
			if o, is := o.(api.Outcome); is {
				came[o.Kind]++
			}
		}
	}
	for _, kind := range []int{api.Merged, api.Conflicts, api.Invalid} {
		if came[kind] < 2 {
			t.Errorf("kind %d came up %d times", kind, came[kind])
		}
	}
}

func TestP12_4NothingIsChanged(t *testing.T) {
	t.Parallel()
	all := held()
	for _, r := range wrong() {
		all = append(all, given{r, 0, states("{a = true}", "{a = true}", "{a = false}"), []int{1}})
	}
	for _, x := range all {
		x = x.roomy()
		before := showRoom(x)
		x.answers()
		if showRoom(x) != before {
			t.Errorf("changed: %s", short(before))
		}
	}
}

func TestP12_4SameChangesNothing(t *testing.T) {
	for i, a := range unlike() {
		a, b := roomy(a), roomy(unlike()[i])
		before := showRoom(a) + showRoom(b)
		if !merge.Same(a, b) || showRoom(a)+showRoom(b) != before {
			t.Errorf("changed: %s", short(before))
		}
	}
}

func TestP12_4AnswersAreNewMemory(t *testing.T) {
	t.Parallel()
	for _, x := range held() {
		for _, x := range []given{x, x.roomy()} {
			if !apart(x.rooms(), append(x.answers(), x.answers()...)...) {
				t.Errorf("at %d, %s, of %s", x.k, short(show(x.s)), short(show(x.r)))
			}
		}
	}
}

// What is handed in, and what is answered, is written over: what else was answered stays, and is answered again.
func TestP12_4NothingIsKept(t *testing.T) {
	t.Parallel()
	for _, held := range held() {
		x := held.roomy()
		first, told := x.answers(), x.answers()
		before := show(told)
		overwrite(reflect.ValueOf(first))
		for _, row := range []any{x.r, x.s[0], x.s[1], x.s[2], x.takes} {
			overwrite(reflect.ValueOf(row))
		}
		if show(told) != before {
			t.Errorf("%s, and not %s", short(show(told)), short(before))
		}
		if got := show(held.answers()); got != before {
			t.Errorf("asked again: %s, and not %s", short(got), short(before))
		}
	}
}

// overwrite puts zero to all places of all rows in v.
func overwrite(v reflect.Value) {
	switch v.Kind() {
	case reflect.Interface:
		overwrite(v.Elem())
	case reflect.Struct:
		for i := range v.NumField() {
			overwrite(v.Field(i))
		}
	case reflect.Slice:
		for i := range v.Len() {
			overwrite(v.Index(i))
			v.Index(i).SetZero()
		}
	}
}
