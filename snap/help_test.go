package snap_test

import (
	"fmt"
	"reflect"
	"slices"
	"strconv"
	"strings"
	"testing"

	"cabochon/api"
	"cabochon/decl"
	"cabochon/doc"
	"cabochon/lenstext"
	"cabochon/text"
)

// Types, documents and lenses are written as texts.

func typ(s string) api.Type {
	t, at, err := decl.Parse(s)
	if err != api.OK {
		panic(fmt.Sprintf("%s: %v at %d", s, err, at))
	}
	return t
}

func val(s string) api.Doc {
	d, at, err := text.Parse(s)
	if err != api.OK {
		panic(fmt.Sprintf("%s: %v at %d", s, err, at))
	}
	return d
}

func lenses(s string) []api.Lens {
	l, at, err := lenstext.Parse(s)
	if err != api.OK {
		panic(fmt.Sprintf("%s: %v at %d", s, err, at))
	}
	return l
}

// registry is one that is written as lines, right or not: a schema by its name and its type, a join by the places of its schemas and its lens.
func registry(lines ...string) api.Registry {
	var r api.Registry
	for _, line := range lines {
		ahead, behind, _ := strings.Cut(line, ":")
		if from, to, is := strings.Cut(ahead, " > "); is {
			r.Joins = append(r.Joins, join(number(from), number(to), lenses(behind)...))
		} else {
			r.Schemas = append(r.Schemas, api.Named{Name: ahead, Type: typ(behind)})
		}
	}
	return r
}

func number(s string) int {
	n, err := strconv.Atoi(s)
	if err != nil {
		panic(err)
	}
	return n
}

func join(from, to int, l ...api.Lens) api.Join { return api.Join{From: from, To: to, Lens: l} }

// name is that of the schema k of most registries here.
func name(k int) string { return "s" + strconv.Itoa(k) }

// alike is a registry of so many schemas of one type, and of joins that change nothing.
func alike(n int, joins ...api.Join) api.Registry {
	r := api.Registry{Joins: joins}
	for k := range n {
		r.Schemas = append(r.Schemas, api.Named{Name: name(k), Type: typ("{a: bool}")})
	}
	return r
}

// States, and what is left out.

func place(step ...int) []int { return step }

func left(edge int, step []int, d string, keys ...string) api.Res {
	return api.Res{Edge: edge, Step: step, At: keys, Doc: val(d)}
}

func res(l ...api.Res) []api.Res { return l }

func state(d string, l ...api.Res) api.State { return api.State{Doc: val(d), Res: l} }

// many is so much that is left out at an edge.
func many(edge, n int) []api.Res {
	var l []api.Res
	for i := range n {
		l = append(l, left(edge, place(i), "true"))
	}
	return l
}

// Snapshots.

func file(name string, k int, d string, l ...api.Res) api.File {
	return api.File{Name: name, Schema: k, State: state(d, l...)}
}

func snapshot(r api.Registry, l ...api.File) api.Snap { return api.Snap{Reg: r, Files: l} }

// with is s, in which l stand in the place of the files from one place to another one.
func with(s api.Snap, from, to int, l ...api.File) api.Snap {
	return api.Snap{Reg: s.Reg, Files: slices.Replace(slices.Clone(s.Files), from, to, l...)}
}

// dict is a dictionary of so many entries, by rising keys, each of them x.
func dict(n int, x api.Doc) api.Doc {
	d := api.Doc{Kind: api.DDict}
	for i := range n {
		d.Keys = append(d.Keys, key(i))
		d.Kids = append(d.Kids, x)
	}
	return d
}

// key is one of keys that rise as numbers do.
func key(n int) string { return "k" + strconv.Itoa(1<<20+n) }

// rec is the record of one field.
func rec(name string, x api.Doc) api.Doc { return doc.Rec([]string{name}, []api.Doc{x}) }

// What stands in these is written as a whole, so that two of a kind are told apart by no call of the program; rows that are none and empty ones are written alike.

func show(x any) string { return written(x, false) }

// showRoom is show, with the spare room behind each row.
func showRoom(x any) string { return written(x, true) }

func written(x any, room bool) string {
	var b strings.Builder
	write(&b, reflect.ValueOf(x), room)
	return b.String()
}

func write(b *strings.Builder, v reflect.Value, room bool) {
	switch v.Kind() {
	case reflect.Struct:
		b.WriteString("{")
		for i := range v.NumField() {
			if f := v.Field(i); !f.IsZero() && (f.Kind() != reflect.Slice || f.Len() > 0 || room && f.Cap() > 0) {
				b.WriteString(v.Type().Field(i).Name + ":")
				write(b, f, room)
			}
		}
		b.WriteString("}")
	case reflect.Slice, reflect.Array:
		if room && v.Kind() == reflect.Slice {
			v = v.Slice(0, v.Cap())
		}
		b.WriteString("[")
		for i := range v.Len() {
			write(b, v.Index(i), room)
		}
		b.WriteString("]")
	case reflect.String:
		b.WriteString(strconv.Quote(v.String()) + " ")
	case reflect.Interface:
		write(b, v.Elem(), room)
	case reflect.Int:
		b.WriteString(strconv.FormatInt(v.Int(), 10) + " ")
	default:
		b.WriteString(fmt.Sprint(v) + " ")
	}
}

// short is s, or its beginning, for what a test tells.
func short(s string) string {
	if len(s) > 700 {
		return s[:700] + " and so on, of " + strconv.Itoa(len(s)) + " bytes"
	}
	return s
}

// want is whether got is as wanted, told as what was asked.
func want(t *testing.T, what string, got, wanted any) bool {
	t.Helper()
	is := show(got) == show(wanted)
	if !is {
		t.Errorf("%s: got %s, want %s", short(what), short(show(got)), short(show(wanted)))
	}
	return is
}

// wantBoth is want of an answer that comes with an error.
func wantBoth[T any](t *testing.T, what string, wanted T, wantedErr api.Errno) func(got T, err api.Errno) {
	return func(got T, err api.Errno) {
		t.Helper()
		if err != wantedErr {
			t.Errorf("%s: %v, not %v", short(what), err, wantedErr)
		}
		want(t, what, got, wanted)
	}
}

// Registries.

// some is schemas of which some are joined: 0, 1 and 2, and 3 and 4; 5 is alone.
func some() api.Registry {
	return registry(
		"s: {a: int (0 .. 9)}", "t: {a: int (0 .. 9), b: bool}", "u: {b: bool, c: int (0 .. 9)}",
		"v: {r: {x: bool}}", "w: {r: {}, x: bool}", "x: {a: int (0 .. 9)}",
		"0 > 1: add b: bool = false;", "2 > 1: rename c to a;", "3 > 4: hoist x out of r;",
	)
}

// held is files at schemas of some: at 0 and 2, which are joined by way of 1, at 4, and at 5, which is alone.
func held() api.Snap {
	return snapshot(some(),
		file("f", 0, "{a = 3}", left(0, place(0), "true")),
		file("g", 2, "{b = true, c = 4}"),
		file("h", 4, "{r = {}, x = true}"),
		file("m", 5, "{a = 5}"),
	)
}

// row is four schemas, one behind the other, by joins that are in another order.
func row() api.Registry {
	return registry(
		"s: {}", "t: {x: bool}", "u: {x: bool, y: bool}", "v: {y: bool}",
		"1 > 2: add y: bool = true;", "2 > 3: remove x: bool = false;", "1 > 0: remove x: bool = true;",
	)
}

// hosts is three schemas, each of which has something that the others have not, at each entry of a dictionary, or beside it.
func hosts() api.Registry {
	return registry(
		"s: {h: dict (0 .. 9) of {port: int (0 .. 99)}, n: int (0 .. 9)}",
		"t: {h: dict (0 .. 9) of {port: int (0 .. 99), tls: bool}}",
		`u: {h: dict (0 .. 9) of {tls: bool}, m: enum ("x", "y")}`,
		"0 > 1: map h {add tls: bool = true;}; remove n: int (0 .. 9) = 1;",
		`2 > 1: remove m: enum ("x", "y") = "y"; map h {add port: int (0 .. 99) = 80;};`,
	)
}

// hosted is a file of hosts at its schema t, with what t does not see.
func hosted() api.Snap {
	return snapshot(hosts(), file("f", 1, `{h = <"a": {port = 1, tls = false}, "b": {port = 2, tls = false}>}`, left(0, place(1), "3"), left(1, place(0), `"x"`)))
}

// pile is schemas of dictionaries of records, which have nothing, a, and a and b.
func pile() api.Registry {
	return registry(
		"s: {d: dict (0 .. 512) of {}}", "t: {d: dict (0 .. 512) of {a: bool}}", "u: {d: dict (0 .. 512) of {a: bool, b: bool}}",
		"0 > 1: map d {add a: bool = true;};", "1 > 2: map d {add b: bool = false;};",
	)
}

// piled is the document of so many entries at each schema of pile.
func piled(k, n int) api.Doc {
	return rec("d", dict(n, val([]string{"{}", "{a = true}", "{a = true, b = false}"}[k])))
}

// wrong is registries that are not right.
func wrong() []api.Registry {
	return []api.Registry{
		registry("s: {a: bool}", "s: {b: bool}"),
		registry("S: {a: bool}"),
		registry("s: bool"),
		{Schemas: make([]api.Named, 1)},
		{Schemas: some().Schemas, Joins: make([]api.Join, 1)},
		alike(1, join(0, 0)),
		alike(2, join(0, 2)),
		alike(2, join(-1, 0)),
		alike(2, join(0, 1), join(0, 1)),
		alike(3, join(0, 1), join(1, 2), join(2, 0)),
		alike(2, join(0, 1, lenses("rename a to b;")...)),
		alike(2, join(0, 1, make([]api.Lens, 1)...)),
		alike(13),
		{Joins: []api.Join{join(0, 1)}},
	}
}
