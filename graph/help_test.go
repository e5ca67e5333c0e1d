package graph_test

import (
	"fmt"
	"reflect"
	"strconv"
	"strings"
	"testing"

	"cabochon/api"
	"cabochon/decl"
	"cabochon/lenstext"
	"cabochon/text"
)

// Types, documents and lenses are written as texts.

func typ(s string) api.Type {
	t, at, err := decl.Parse(s)
	if err != api.OK {
		panic(fmt.Sprintf("%s: %v at %d", s, err, at))
	}
	return t
}

func val(s string) api.Doc {
	d, at, err := text.Parse(s)
	if err != api.OK {
		panic(fmt.Sprintf("%s: %v at %d", s, err, at))
	}
	return d
}

func lenses(s string) []api.Lens {
	l, at, err := lenstext.Parse(s)
	if err != api.OK {
		panic(fmt.Sprintf("%s: %v at %d", s, err, at))
	}
	return l
}

// registry is one that is written as lines, right or not: a schema by its name and its type, a join by the places of its schemas and its lens.
func registry(lines ...string) api.Registry {
	var r api.Registry
	for _, line := range lines {
		ahead, behind, _ := strings.Cut(line, ":")
		if from, to, is := strings.Cut(ahead, " > "); is {
			r.Joins = append(r.Joins, join(number(from), number(to), lenses(behind)...))
		} else {
			r.Schemas = append(r.Schemas, api.Named{Name: ahead, Type: typ(behind)})
		}
	}
	return r
}

func number(s string) int {
	n, err := strconv.Atoi(s)
	if err != nil {
		panic(err)
	}
	return n
}

func join(from, to int, l ...api.Lens) api.Join { return api.Join{From: from, To: to, Lens: l} }

func forth(join int) api.Hop { return api.Hop{Join: join} }

func back(join int) api.Hop { return api.Hop{Join: join, Back: true} }

func hops(l ...api.Hop) []api.Hop { return l }

// name is that of the schema k of most registries here.
func name(k int) string { return "s" + strconv.Itoa(k) }

// alike is a registry of so many schemas of one type, and of joins that change nothing.
func alike(n int, joins ...api.Join) api.Registry {
	r := api.Registry{Joins: joins}
	for k := range n {
		r.Schemas = append(r.Schemas, api.Named{Name: name(k), Type: typ("{a: bool}")})
	}
	return r
}

// wide is a record of so many bools.
func wide(n int) api.Type {
	t := api.Type{Kind: api.TRec}
	for i := range n {
		t.Fields = append(t.Fields, api.Field{Name: "n" + strconv.Itoa(1<<20+i), Type: typ("bool")})
	}
	return t
}

// What stands in these is written as a whole, so that two of a kind are told apart by no call of the program; rows that are none and empty ones are written alike.

func show(x any) string { return written(x, false) }

// showRoom is show, with the spare room behind each row.
func showRoom(x any) string { return written(x, true) }

func written(x any, room bool) string {
	var b strings.Builder
	write(&b, reflect.ValueOf(x), room)
	return b.String()
}

func write(b *strings.Builder, v reflect.Value, room bool) {
	switch v.Kind() {
	case reflect.Struct:
		b.WriteString("{")
		for i := range v.NumField() {
			if f := v.Field(i); !f.IsZero() && (f.Kind() != reflect.Slice || f.Len() > 0 || room && f.Cap() > 0) {
				b.WriteString(v.Type().Field(i).Name + ":")
				write(b, f, room)
			}
		}
		b.WriteString("}")
	case reflect.Slice, reflect.Array:
		if room && v.Kind() == reflect.Slice {
			v = v.Slice(0, v.Cap())
		}
		b.WriteString("[")
		for i := range v.Len() {
			write(b, v.Index(i), room)
		}
		b.WriteString("]")
	case reflect.String:
		b.WriteString(strconv.Quote(v.String()) + " ")
	default:
		b.WriteString(fmt.Sprint(v) + " ")
	}
}

// short is s, or its beginning, for what a test tells.
func short(s string) string {
	if len(s) > 700 {
		return s[:700] + " and so on, of " + strconv.Itoa(len(s)) + " bytes"
	}
	return s
}

// want is whether got is as wanted, told as what was asked.
func want(t *testing.T, what string, got, wanted any) bool {
	t.Helper()
	is := show(got) == show(wanted)
	if !is {
		t.Errorf("%s: got %s, want %s", short(what), short(show(got)), short(show(wanted)))
	}
	return is
}

// wantBoth is want of an answer that comes with an error.
func wantBoth[T any](t *testing.T, what string, wanted T, wantedErr api.Errno) func(got T, err api.Errno) {
	return func(got T, err api.Errno) {
		t.Helper()
		if err != wantedErr {
			t.Errorf("%s: %v, not %v", short(what), err, wantedErr)
		}
		want(t, what, got, wanted)
	}
}
