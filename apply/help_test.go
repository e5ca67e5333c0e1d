package apply_test

import (
	"fmt"
	"reflect"
	"strconv"
	"strings"
	"testing"

	"cabochon/api"
	"cabochon/apply"
	"cabochon/decl"
	"cabochon/doc"
	"cabochon/text"
)

// Types and documents are written as texts.

func typ(s string) api.Type {
	t, at, err := decl.Parse(s)
	if err != api.OK {
		panic(fmt.Sprintf("%s: %v at %d", s, err, at))
	}
	return t
}

func val(s string) api.Doc {
	d, at, err := text.Parse(s)
	if err != api.OK {
		panic(fmt.Sprintf("%s: %v at %d", s, err, at))
	}
	return d
}

// Steps.

func steps(l ...api.Lens) []api.Lens { return l }

func rename(a, b string) api.Lens { return api.Lens{Kind: api.LRename, A: a, B: b} }

func add(a, t, d string) api.Lens {
	return api.Lens{Kind: api.LAdd, A: a, Type: typ(t), Doc: val(d)}
}

func remove(a, t, d string) api.Lens {
	return api.Lens{Kind: api.LRemove, A: a, Type: typ(t), Doc: val(d)}
}

func hoist(a, b string) api.Lens { return api.Lens{Kind: api.LHoist, A: a, B: b} }

func plunge(a, b string) api.Lens { return api.Lens{Kind: api.LPlunge, A: a, B: b} }

func wrap(a string) api.Lens { return api.Lens{Kind: api.LWrap, A: a} }

func head(a string) api.Lens { return api.Lens{Kind: api.LHead, A: a} }

func convert(a string, swaps ...[2]int) api.Lens {
	return api.Lens{Kind: api.LConvert, A: a, Swaps: swaps}
}

func in(a string, subs ...api.Lens) api.Lens { return api.Lens{Kind: api.LIn, A: a, Subs: subs} }

func each(a string, subs ...api.Lens) api.Lens { return api.Lens{Kind: api.LMap, A: a, Subs: subs} }

// Places, and what is left out there.

// edge is the one of most lenses here.
const edge = 7

func place(step ...int) []int { return step }

func left(edge int, step []int, d string, keys ...string) api.Res {
	return api.Res{Edge: edge, Step: step, At: keys, Doc: val(d)}
}

// out is what is left out at the edge.
func out(step []int, d string, keys ...string) api.Res { return left(edge, step, d, keys...) }

func res(l ...api.Res) []api.Res { return l }

func state(d string, l ...api.Res) api.State { return api.State{Doc: val(d), Res: l} }

// dict is a dictionary of so many entries, by rising keys, each of them x.
func dict(n int, x api.Doc) api.Doc {
	d := api.Doc{Kind: api.DDict}
	for i := range n {
		d.Keys = append(d.Keys, key(i))
		d.Kids = append(d.Kids, x)
	}
	return d
}

// key is one of keys that rise as numbers do.
func key(n int) string { return "k" + strconv.Itoa(1<<20+n) }

// rec is the record of one field.
func rec(name string, x api.Doc) api.Doc { return doc.Rec([]string{name}, []api.Doc{x}) }

// many is so much that is left out at an edge.
func many(edge, n int) []api.Res {
	var l []api.Res
	for i := range n {
		l = append(l, left(edge, place(i), "true"))
	}
	return l
}

// What stands in these is written as a whole, so that two of a kind are told apart by no call of the program; rows that are none and empty ones are written alike.

func show(x any) string { return written(x, false) }

// showRoom is show, with the spare room behind each row.
func showRoom(x any) string { return written(x, true) }

func written(x any, room bool) string {
	var b strings.Builder
	write(&b, reflect.ValueOf(x), room)
	return b.String()
}

func write(b *strings.Builder, v reflect.Value, room bool) {
	switch v.Kind() {
	case reflect.Struct:
		b.WriteString("{")
		for i := range v.NumField() {
			if f := v.Field(i); !f.IsZero() && (f.Kind() != reflect.Slice || f.Len() > 0 || room && f.Cap() > 0) {
				b.WriteString(v.Type().Field(i).Name + ":")
				write(b, f, room)
			}
		}
		b.WriteString("}")
	case reflect.Slice, reflect.Array:
		if room && v.Kind() == reflect.Slice {
			v = v.Slice(0, v.Cap())
		}
		b.WriteString("[")
		for i := range v.Len() {
			write(b, v.Index(i), room)
		}
		b.WriteString("]")
	case reflect.String:
		b.WriteString(strconv.Quote(v.String()) + " ")
	default:
		b.WriteString(fmt.Sprint(v) + " ")
	}
}

// short is s, or its beginning, for what a test tells.
func short(s string) string {
	if len(s) > 700 {
		return s[:700] + " and so on, of " + strconv.Itoa(len(s)) + " bytes"
	}
	return s
}

// want is whether got is as wanted, told as what was asked.
func want(t *testing.T, what string, got, wanted any) bool {
	t.Helper()
	is := show(got) == show(wanted)
	if !is {
		t.Errorf("%s: got %s, want %s", short(what), short(show(got)), short(show(wanted)))
	}
	return is
}

// wantGo asks for a state.
func wantGo(t *testing.T, what string, x api.Type, l []api.Lens, back bool, s, wanted api.State) {
	t.Helper()
	got, err := apply.Go(x, l, edge, back, s)
	if err != api.OK {
		t.Errorf("%s: %v", short(what), err)
	}
	want(t, what, got, wanted)
}

// wantNone asks for an error, of Go, and of Needs as far as it is not told of what is left out.
func wantNone(t *testing.T, what string, x api.Type, l []api.Lens, back bool, s api.State, wanted api.Errno) {
	t.Helper()
	got, err := apply.Go(x, l, edge, back, s)
	if err != wanted {
		t.Errorf("%s: %v, not %v", short(what), err, wanted)
	}
	want(t, what, got, api.State{})
	if len(s.Res) == 0 {
		want(t, what+": needs", apply.Needs(x, l, edge, back, s.Doc), res())
	}
}
