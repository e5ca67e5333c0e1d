package schema_test

import (
	"math/rand/v2"
	"slices"
	"testing"

	"cabochon/api"
	"cabochon/schema"
)

// twins is types whose parts are one and the same memory, so that an answer must part them.
func twins() []api.Type {
	one := enum("a", "b")
	two := rec(field("a", one), field("b", one), optional("c", list(1, 2, one)))
	return []api.Type{two, rec(field("a", two), field("b", two), field("c", dict(3, 3, two))), list(9, 9, rec(field("a", two), field("b", list(2, 2, two))))}
}

func TestP4_5NothingIsChanged(t *testing.T) {
	for _, x := range append(randoms(200), append(twins(), sample(), whole())...) {
		x = roomy(x)
		f := roomy(sample())
		before, beforeF := showRoom(x), showRoom(f)
		schema.Right(x)
		schema.Size(x)
		schema.Depth(x)
		schema.Same(x, x)
		schema.At(x)
		schema.At(x, "a", "0")
		schema.Field(x, "a")
		for _, name := range []string{"a", "aa", "b", "zz"} {
			schema.Put(x, field(name, f))
			schema.Drop(x, name)
		}
		schema.Copy(x)
		schema.Scalar(x)
		schema.Least(x)
		if showRoom(x) != before || showRoom(f) != beforeF {
			t.Errorf("changed: %s", before)
		}
	}
	path := append(make([]string, 0, 4), "a", "any")
	schema.At(sample(), path...)
	if !slices.Equal(path[:4], []string{"a", "any", "", ""}) {
		t.Errorf("the path is %q", path[:4])
	}
}

// What is answered is overwritten as a whole: what was handed in stays, and no part of the answer was another one.
func TestP4_5AnswersAreNewMemory(t *testing.T) {
	for _, x := range append(randoms(200), append(twins(), sample(), whole())...) {
		x = roomy(x)
		f := roomy(sample())
		before, beforeF := showRoom(x), showRoom(f)
		put, _ := schema.Put(x, field("zz", f))
		ahead, _ := schema.Put(x, optional("aa", f))
		drop, _ := schema.Drop(x, "a")
		at, _ := schema.At(x, "b")
		all, _ := schema.At(x)
		var r rooms
		for _, got := range []api.Type{schema.Copy(x), put, ahead, drop, at, all} {
			r.typ(got)
		}
		r.doc(schema.Least(x))
		r.doc(schema.Least(x))
		if !r.apart() {
			t.Errorf("parts of the answers share memory: %s", before)
		}
		if showRoom(x) != before || showRoom(f) != beforeF {
			t.Errorf("an answer shares memory with what was handed in: %s", before)
		}
	}
}

func TestP4_5WhatIsPutIsNotKept(t *testing.T) {
	x, f := sample(), field("d", enum("a", "b"))
	got, err := schema.Put(x, f)
	before := show(got)
	f.Type.Names[0] = "changed"
	x.Fields[0].Type.Of[0].Fields[0].Name = "changed"
	if err != api.OK || show(got) != before {
		t.Errorf("%v, %s", err, show(got))
	}
}

func TestP4_6WhatIsPutIsThere(t *testing.T) {
	r := rand.New(rand.NewPCG(3, 4))
	often := 0
	for range 3000 {
		x, f := randomRec(r, 4), api.Field{Name: []string{"a", "aa", "b", "bb", "c", "z"}[r.IntN(6)], Optional: r.IntN(2) == 0, Type: random(r, 3)}
		got, err := schema.Put(x, f)
		if err != api.OK {
			continue
		}
		often++
		i := schema.Field(got, f.Name)
		if i < 0 || got.Fields[i].Optional != f.Optional || !schema.Right(got) || len(got.Fields) != len(x.Fields)+1 {
			t.Fatalf("%s: %s", show(x), show(got))
		}
		at, is := schema.At(got, f.Name)
		if !is {
			t.Errorf("%s is not there", f.Name)
		}
		wantType(t, "what was put", at, f.Type)
		back, err := schema.Drop(got, f.Name)
		if err != api.OK {
			t.Errorf("Drop: %v", err)
		}
		wantType(t, "dropped", back, x)
	}
	if often < 1000 {
		t.Errorf("%d were put", often)
	}
}

func TestP4_6WhatIsDroppedIsNotThere(t *testing.T) {
	r := rand.New(rand.NewPCG(5, 6))
	for range 1000 {
		x := randomRec(r, 4)
		for _, f := range x.Fields {
			got, err := schema.Drop(x, f.Name)
			if err != api.OK || schema.Field(got, f.Name) != -1 || !schema.Right(got) {
				t.Errorf("%s: %s, %v", show(x), show(got), err)
			}
			back, err := schema.Put(got, f)
			if err != api.OK {
				t.Errorf("Put: %v", err)
			}
			wantType(t, "put again", back, x)
		}
	}
}

// No call panics, whatever it is given.
func TestW1AnyTypes(t *testing.T) {
	l := append(randoms(20), twins()...)
	for _, x := range wrong() {
		l = append(l, x)
	}
	for _, x := range l {
		if !schema.Same(x, x) || schema.Size(x) < schema.Depth(x) || schema.Depth(x) < 1 {
			t.Errorf("%s: Size %d, Depth %d", short(show(x)), schema.Size(x), schema.Depth(x))
		}
		for _, path := range [][]string{nil, {""}, {"a"}, {"0"}, {"a", "a"}, {"0", "0"}, {"b"}, {"a", "0", "b"}} {
			if got, is := schema.At(x, path...); !is {
				wantZero(t, "beside a false", got)
			}
		}
		for _, y := range l {
			if got, err := schema.Put(x, field("m", y)); err != api.OK {
				wantZero(t, "beside an error", got)
			} else if !schema.Right(got) {
				t.Errorf("not right: %s", short(show(got)))
			}
		}
	}
}
