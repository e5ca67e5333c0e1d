package valid_test

import (
	"slices"
	"strconv"
	"strings"
	"testing"

	"cabochon/api"
	"cabochon/valid"
)

// spared is l with spare room behind it, in which something stands that must stay.
func spared[T any](l []T, spare T) []T {
	return append(slices.Clone(l), spare, spare)[:len(l)]
}

// roomyType is t with such room behind all rows.
func roomyType(t api.Type) api.Type {
	t.Names, t.Fields, t.Of = spared(t.Names, "spare"), spared(t.Fields, field("spare", number(-77, 0))), spared(t.Of, number(-77, 0))
	for i := range t.Fields {
		t.Fields[i].Type = roomyType(t.Fields[i].Type)
	}
	for i := range t.Of {
		t.Of[i] = roomyType(t.Of[i])
	}
	return t
}

func roomy(d api.Doc) api.Doc {
	d.Keys, d.Kids = spared(d.Keys, "spare"), spared(d.Kids, dInt(-77))
	for i := range d.Kids {
		d.Kids[i] = roomy(d.Kids[i])
	}
	return d
}

// showTypeRoom is showType, with the spare room.
func showTypeRoom(t api.Type) string {
	s := showType(t) + strings.Join(t.Names[:cap(t.Names)], ",")
	for _, f := range t.Fields[len(t.Fields):cap(t.Fields)] {
		s += f.Name + showType(f.Type)
	}
	for _, of := range t.Of[len(t.Of):cap(t.Of)] {
		s += showType(of)
	}
	for _, f := range t.Fields {
		s += showTypeRoom(f.Type)
	}
	for _, of := range t.Of {
		s += showTypeRoom(of)
	}
	return s
}

// showRoom is show, with the spare room.
func showRoom(d api.Doc) string {
	s := show(d) + strings.Join(d.Keys[:cap(d.Keys)], ",")
	for _, k := range d.Kids[len(d.Kids):cap(d.Kids)] {
		s += show(k)
	}
	for _, k := range d.Kids {
		s += showRoom(k)
	}
	return s
}

// rooms gathers all memory that answers lead to, spare room too.
type rooms struct {
	texts  [][]string
	docs   [][]api.Doc
	faults [][]api.Fault
}

func (r *rooms) doc(d api.Doc) {
	for _, k := range d.Kids {
		r.doc(k)
	}
	r.texts = append(r.texts, d.Keys[:cap(d.Keys)])
	r.docs = append(r.docs, d.Kids[:cap(d.Kids)])
}

func (r *rooms) row(l []api.Fault) {
	for _, f := range l {
		r.texts = append(r.texts, f.Path[:cap(f.Path)])
	}
	r.faults = append(r.faults, l[:cap(l)])
}

// marked marks all of each row by its number in turn, and is whether no mark is lost by a later one: whether the rows share nothing.
func marked[T any](rows [][]T, mark func(x *T, n int), has func(x T, n int) bool) bool {
	for i, l := range rows {
		for j := range l {
			mark(&l[j], i)
		}
	}
	is := true
	for i, l := range rows {
		is = is && !slices.ContainsFunc(l, func(x T) bool { return !has(x, i) })
	}
	return is
}

// apart is whether no two of the rows share memory; all of it is overwritten.
func (r *rooms) apart() bool {
	texts := marked(r.texts, func(s *string, n int) { *s = strconv.Itoa(n) }, func(s string, n int) bool { return s == strconv.Itoa(n) })
	docs := marked(r.docs, func(d *api.Doc, n int) { *d = dInt(n) }, func(d api.Doc, n int) bool { return d.Num == n })
	told := marked(r.faults, func(f *api.Fault, n int) { *f = fault(api.Errno(n)) }, func(f api.Fault, n int) bool { return f.Err == api.Errno(n) })
	return texts && docs && told
}

// held is pairs, right and not, in which some parts are one and the same memory, so that an answer must part them.
func held() []pair {
	one := rec(field("a", enum("a", "b")), optional("b", list(1, 2, enum("a", "b"))))
	same := dRec(keys("a", "b", "c"), dBytes("b"), dList(dBytes("a"), dBytes("a")), dInt(1))
	l := []pair{
		{dict(0, 9, one), dDict(keys("x", "y", "z"), same, same, same)},
		{list(0, 2, one), dList(same, same, same)},
		{api.Type{}, dList(same, dRec(keys("x"), same), same)},
		{rec(field("a", one), field("b", one), field("c", one)), dRec(keys("a", "b"), same, dInt(1))},
		{yes(), api.Doc{Kind: api.DBool, Num: 2, Keys: keys("x"), Kids: []api.Doc{same}}},
		bushy(6),
	}
	for _, p := range kinds() {
		l = append(l, p)
	}
	return append(l, pairs(500, 5)...)
}

func TestP5_4NothingIsChanged(t *testing.T) {
	for _, p := range held() {
		x, d := roomyType(p.t), roomy(p.d)
		beforeX, beforeD := showTypeRoom(x), showRoom(d)
		valid.Check(x, d)
		valid.All(x, d)
		valid.Is(x, d)
		valid.Fits(x, d)
		valid.Mend(x, d)
		if showTypeRoom(x) != beforeX || showRoom(d) != beforeD {
			t.Errorf("changed: %s, or %s", beforeX, beforeD)
		}
	}
}

// What is answered is overwritten as a whole: what was handed in stays, and no part of the answers was another one.
func TestP5_4AnswersAreNewMemory(t *testing.T) {
	for _, p := range held() {
		x, d := roomyType(p.t), roomy(p.d)
		beforeX, beforeD := showTypeRoom(x), showRoom(d)
		var r rooms
		for range 2 {
			m, _ := valid.Mend(x, d)
			r.doc(m)
			r.row(valid.All(x, d))
			r.row([]api.Fault{valid.Check(x, d)})
		}
		if !r.apart() {
			t.Errorf("parts of the answers share memory: %s, %s", beforeX, beforeD)
		}
		if showTypeRoom(x) != beforeX || showRoom(d) != beforeD {
			t.Errorf("an answer shares memory with what was handed in: %s, %s", beforeX, beforeD)
		}
	}
}

func TestP5_4WhatIsHandedInIsNotKept(t *testing.T) {
	x, d := sample(), ofSample()
	d.Kids[0].Kids[0].Kids[0].Num = 1
	all, first := valid.All(x, d), valid.Check(x, d)
	m, _ := valid.Mend(x, d)
	beforeAll, beforeFirst, beforeM := showFaults(all), showFault(first), show(m)
	d.Keys[0], d.Kids[0].Keys[0], d.Kids[2].Kids[0].Str = "changed", "changed", "changed"
	x.Fields[0].Name, x.Fields[1].Type.Names[0] = "changed", "changed"
	if showFaults(all) != beforeAll || showFault(first) != beforeFirst || show(m) != beforeM {
		t.Errorf("%s%s%s", showFaults(all), showFault(first), show(m))
	}
}
