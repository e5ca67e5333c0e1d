package lens_test

import (
	"fmt"
	"reflect"
	"strconv"
	"strings"
	"testing"

	"cabochon/api"
	"cabochon/decl"
	"cabochon/text"
)

// Types and documents are written as texts.

func typ(s string) api.Type {
	t, at, err := decl.Parse(s)
	if err != api.OK {
		panic(fmt.Sprintf("%s: %v at %d", s, err, at))
	}
	return t
}

func val(s string) api.Doc {
	d, at, err := text.Parse(s)
	if err != api.OK {
		panic(fmt.Sprintf("%s: %v at %d", s, err, at))
	}
	return d
}

// Steps.

func steps(l ...api.Lens) []api.Lens { return l }

func rename(a, b string) api.Lens { return api.Lens{Kind: api.LRename, A: a, B: b} }

func add(a, t, d string) api.Lens {
	return api.Lens{Kind: api.LAdd, A: a, Type: typ(t), Doc: val(d)}
}

func remove(a, t, d string) api.Lens {
	return api.Lens{Kind: api.LRemove, A: a, Type: typ(t), Doc: val(d)}
}

func hoist(a, b string) api.Lens { return api.Lens{Kind: api.LHoist, A: a, B: b} }

func plunge(a, b string) api.Lens { return api.Lens{Kind: api.LPlunge, A: a, B: b} }

func wrap(a string) api.Lens { return api.Lens{Kind: api.LWrap, A: a} }

func head(a string) api.Lens { return api.Lens{Kind: api.LHead, A: a} }

func convert(a string, swaps ...[2]int) api.Lens {
	return api.Lens{Kind: api.LConvert, A: a, Swaps: swaps}
}

func in(a string, subs ...api.Lens) api.Lens { return api.Lens{Kind: api.LIn, A: a, Subs: subs} }

func each(a string, subs ...api.Lens) api.Lens { return api.Lens{Kind: api.LMap, A: a, Subs: subs} }

// nested is s within so many steps, each of them in the record r.
func nested(depth int, s api.Lens) api.Lens {
	for range depth {
		s = in("r", s)
	}
	return s
}

// pairs is so many swaps of numbers from 0 on, none of them twice.
func pairs(n int) [][2]int {
	var l [][2]int
	for i := range n {
		l = append(l, [2]int{2 * i, 2*i + 1})
	}
	return l
}

// names is so many that rise, all of them names of fields, ahead of each of one letter from o on.
func names(n int) []string {
	var l []string
	for i := range n {
		l = append(l, "n"+strconv.Itoa(1<<20+i))
	}
	return l
}

// wide is a record of so many bools and of other fields, whose names come behind n.
func wide(n int, others ...api.Field) api.Type {
	t := api.Type{Kind: api.TRec}
	for _, name := range names(n) {
		t.Fields = append(t.Fields, api.Field{Name: name, Type: typ("bool")})
	}
	t.Fields = append(t.Fields, others...)
	return t
}

func field(name string, t api.Type) api.Field { return api.Field{Name: name, Type: t} }

// parted is a record of so many parts: bools beside r, s, t and u, records of at most 28 bools.
func parted(parts int) api.Type {
	const most = 28
	left := parts - 5
	var others []api.Field
	for _, name := range []string{"r", "s", "t", "u"} {
		n := min(left, most)
		left -= n
		others = append(others, field(name, wide(n)))
	}
	return wide(left, others...)
}

// chain is lists of lists and so on, of that depth, with a bool at its end.
func chain(depth int) api.Type {
	t := typ("bool")
	for range depth - 1 {
		t = api.Type{Kind: api.TList, Hi: 1, Of: []api.Type{t}}
	}
	return t
}

// What stands in these is written as a whole, so that two of a kind are told apart by no call of the program; rows that are none and empty ones are written alike.

func show(x any) string { return written(x, false) }

// showRoom is show, with the spare room behind each row.
func showRoom(x any) string { return written(x, true) }

func written(x any, room bool) string {
	var b strings.Builder
	write(&b, reflect.ValueOf(x), room)
	return b.String()
}

func write(b *strings.Builder, v reflect.Value, room bool) {
	switch v.Kind() {
	case reflect.Struct:
		b.WriteString("{")
		for i := range v.NumField() {
			if f := v.Field(i); !f.IsZero() && (f.Kind() != reflect.Slice || f.Cap() > 0) {
				b.WriteString(v.Type().Field(i).Name + ":")
				write(b, f, room)
			}
		}
		b.WriteString("}")
	case reflect.Slice, reflect.Array:
		if room && v.Kind() == reflect.Slice {
			v = v.Slice(0, v.Cap())
		}
		b.WriteString("[")
		for i := range v.Len() {
			write(b, v.Index(i), room)
		}
		b.WriteString("]")
	case reflect.String:
		b.WriteString(strconv.Quote(v.String()) + " ")
	default:
		b.WriteString(fmt.Sprint(v) + " ")
	}
}

// short is s, or its beginning, for what a test tells.
func short(s string) string {
	if len(s) > 500 {
		return s[:500] + " and so on, of " + strconv.Itoa(len(s)) + " bytes"
	}
	return s
}

// want is whether got is as wanted, told as what was asked.
func want(t *testing.T, what string, got, wanted any) bool {
	t.Helper()
	is := show(got) == show(wanted)
	if !is {
		t.Errorf("%s: got %s, want %s", short(what), short(show(got)), short(show(wanted)))
	}
	return is
}
