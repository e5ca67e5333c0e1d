package lenstext_test

import (
	"fmt"
	"math/rand/v2"
	"reflect"
	"slices"
	"strconv"
	"strings"
	"testing"

	"cabochon/api"
	"cabochon/doc"
)

// Types of one part.

func number(lo, hi int) api.Type { return api.Type{Kind: api.TInt, Lo: lo, Hi: hi} }

func yes() api.Type { return api.Type{Kind: api.TBool} }

func str(lo, hi int) api.Type { return api.Type{Kind: api.TBytes, Lo: lo, Hi: hi} }

func enum(names ...string) api.Type { return api.Type{Kind: api.TEnum, Names: names} }

// Steps.

func steps(l ...api.Lens) []api.Lens { return l }

func rename(a, b string) api.Lens { return api.Lens{Kind: api.LRename, A: a, B: b} }

func add(a string, t api.Type, d api.Doc) api.Lens {
	return api.Lens{Kind: api.LAdd, A: a, Type: t, Doc: d}
}

func remove(a string, t api.Type, d api.Doc) api.Lens {
	return api.Lens{Kind: api.LRemove, A: a, Type: t, Doc: d}
}

func hoist(a, b string) api.Lens { return api.Lens{Kind: api.LHoist, A: a, B: b} }

func plunge(a, b string) api.Lens { return api.Lens{Kind: api.LPlunge, A: a, B: b} }

func wrap(a string) api.Lens { return api.Lens{Kind: api.LWrap, A: a} }

func head(a string) api.Lens { return api.Lens{Kind: api.LHead, A: a} }

func convert(a string, swaps ...[2]int) api.Lens {
	return api.Lens{Kind: api.LConvert, A: a, Swaps: swaps}
}

func in(a string, subs ...api.Lens) api.Lens { return api.Lens{Kind: api.LIn, A: a, Subs: subs} }

func each(a string, subs ...api.Lens) api.Lens { return api.Lens{Kind: api.LMap, A: a, Subs: subs} }

// nested is s within so many steps, each of them in the record r.
func nested(depth int, s ...api.Lens) []api.Lens {
	for range depth {
		s = steps(in("r", s...))
	}
	return s
}

// names is so many that rise, all of them names of fields.
func names(n int) []string {
	var l []string
	for i := range n {
		l = append(l, "n"+strconv.Itoa(1<<20+i))
	}
	return l
}

// What stands in x is written as a whole, so that two of a kind are told apart by no call of the program; rows that are none and empty ones are written alike.

func show(x any) string { return written(x, false) }

// showRoom is show, with the spare room behind each row.
func showRoom(x any) string { return written(x, true) }

func written(x any, room bool) string {
	var b strings.Builder
	write(&b, reflect.ValueOf(x), room)
	return b.String()
}

func write(b *strings.Builder, v reflect.Value, room bool) {
	switch v.Kind() {
	case reflect.Struct:
		b.WriteString("{")
		for i := range v.NumField() {
			if f := v.Field(i); !f.IsZero() && (f.Kind() != reflect.Slice || f.Cap() > 0) {
				b.WriteString(v.Type().Field(i).Name + ":")
				write(b, f, room)
			}
		}
		b.WriteString("}")
	case reflect.Slice, reflect.Array:
		if room && v.Kind() == reflect.Slice {
			v = v.Slice(0, v.Cap())
		}
		b.WriteString("[")
		for i := range v.Len() {
			write(b, v.Index(i), room)
		}
		b.WriteString("]")
	case reflect.String:
		b.WriteString(strconv.Quote(v.String()) + " ")
	default:
		b.WriteString(fmt.Sprint(v) + " ")
	}
}

// short is s, or its beginning, for what a test tells.
func short(s string) string {
	if len(s) > 500 {
		return s[:500] + " and so on, of " + strconv.Itoa(len(s)) + " bytes"
	}
	return s
}

// want is whether got is as wanted, told as what was asked.
func want(t *testing.T, what string, got, wanted any) bool {
	t.Helper()
	is := show(got) == show(wanted)
	if !is {
		t.Errorf("%s: got %s, want %s", short(what), short(show(got)), short(show(wanted)))
	}
	return is
}

// What comes by chance, the same at each run.

// None of these is a word, though some are nearly one.
var (
	someNames  = []string{"a", "b", "ins", "of_", "r", "true", "z9_abcdefghijkl_"}
	somePieces = []string{"", "\x00", "\t", " ", "\"", "0", "\\", "\\x41", "a", "in", "b\xff", "z\"\\z", "\x7f", "\x80", "\xff"}
	someInts   = []int{api.MinInt, api.MinInt + 1, -10, -1, 0, 1, 9, 10, api.MaxInt - 1, api.MaxInt}
)

func any1[T any](r *rand.Rand, l []T) T { return l[r.IntN(len(l))] }

// some is a few of these, at least one, in an order of their own, none twice.
func some[T any](r *rand.Rand, all []T) []T {
	var l []T
	for _, i := range r.Perm(len(all))[:1+r.IntN(min(4, len(all)))] {
		l = append(l, all[i])
	}
	return l
}

// randomScalar need not be right, but for the names of an enum, that rise.
func randomScalar(r *rand.Rand) api.Type {
	switch r.IntN(4) {
	case 0:
		return number(any1(r, someInts), any1(r, someInts))
	case 1:
		return str(any1(r, someInts), any1(r, someInts))
	case 2:
		l := some(r, somePieces)
		slices.Sort(l)
		return enum(l...)
	}
	return yes()
}

func randomValue(r *rand.Rand) api.Doc {
	switch r.IntN(3) {
	case 0:
		return doc.Int(any1(r, someInts))
	case 1:
		return doc.Bytes(any1(r, somePieces))
	}
	return doc.Bool(r.IntN(2) == 0)
}

// randomStep is a step that has a text, with others within it at most so deep; what it does need not go.
func randomStep(r *rand.Rand, depth int) api.Lens {
	kinds := []int{api.LRename, api.LAdd, api.LRemove, api.LHoist, api.LPlunge, api.LWrap, api.LHead, api.LConvert, api.LIn, api.LMap}
	if depth == 0 {
		kinds = kinds[:8]
	}
	s := api.Lens{Kind: any1(r, kinds), A: any1(r, someNames)}
	switch s.Kind {
	case api.LRename, api.LHoist, api.LPlunge:
		s.B = any1(r, someNames)
	case api.LAdd, api.LRemove:
		s.Type, s.Doc = randomScalar(r), randomValue(r)
	case api.LConvert:
		for range 1 + r.IntN(4) {
			s.Swaps = append(s.Swaps, [2]int{any1(r, someInts), any1(r, someInts)})
		}
	case api.LIn, api.LMap:
		s.Subs = randomSteps(r, r.IntN(3), depth-1)
	}
	return s
}

func randomSteps(r *rand.Rand, n, depth int) []api.Lens {
	var l []api.Lens
	for range n {
		l = append(l, randomStep(r, depth))
	}
	return l
}

// randoms is so many lenses of few enough steps.
func randoms(n int) [][]api.Lens {
	r := rand.New(rand.NewPCG(1, 2))
	var all [][]api.Lens
	for range n {
		all = append(all, randomSteps(r, r.IntN(5), r.IntN(5)))
	}
	return all
}

// kinds is a lens of a step of each kind, and lenses at the limits.
func kinds() [][]api.Lens {
	brim := strings.Repeat("z", api.MaxBytes)
	long := strings.Repeat("n", api.MaxName)
	return [][]api.Lens{
		nil, steps(rename("a", "b")), steps(add("a", yes(), doc.Bool(true))), steps(remove("a", yes(), doc.Bool(false))),
		steps(hoist("a", "b")), steps(plunge("a", "b")), steps(wrap("a")), steps(head("a")), steps(convert("a", [2]int{1, 2})), steps(in("a")), steps(each("a")),
		steps(add("a", number(api.MinInt, api.MaxInt), doc.Int(api.MinInt)), remove("a", str(0, 0), doc.Bytes(""))),
		steps(add("a", enum(brim[1:], brim), doc.Bytes(brim)), add("b", enum(names(api.MaxNames)...), doc.Bytes("n"))),
		steps(rename(long, long), hoist(long, long), in(long, each(long, wrap(long)))),
		nested(8, wrap("a")), nested(8), nested(8, slices.Repeat(steps(wrap("a"), plunge("b", "a")), 20)...), steps(each("a", nested(7, wrap("a"), wrap("a"))...), wrap("a")),
		slices.Repeat(steps(wrap("a")), api.MaxSteps), steps(in("a", slices.Repeat(steps(wrap("a")), api.MaxSteps-2)...), wrap("b")),
		slices.Repeat(nested(8), api.MaxSteps/8), slices.Repeat(steps(in("a"), each("b")), api.MaxSteps/2),
	}
}
