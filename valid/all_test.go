package valid_test

import (
	"slices"
	"strconv"
	"testing"

	"cabochon/api"
	"cabochon/valid"
)

// wantAll holds All to want, and Check and Is to its first one.
func wantAll(t *testing.T, what string, x api.Type, d api.Doc, want []api.Fault) {
	t.Helper()
	wantFaults(t, what+": All", valid.All(x, d), want)
	first := api.Fault{}
	if len(want) > 0 {
		first = want[0]
	}
	wantFault(t, what+": Check", valid.Check(x, d), first)
	if is := valid.Is(x, d); is != (len(want) == 0) {
		t.Errorf("%s: Is is %v", what, is)
	}
}

func TestP5_2NoFaults(t *testing.T) {
	for what, p := range kinds() {
		wantAll(t, what, p.t, p.d, nil)
		if f := valid.Check(p.t, p.d); f.Path != nil || f.Err != api.OK {
			t.Errorf("%s: Check tells %s of a path that is not none", what, showFault(f))
		}
	}
	wantAll(t, "optional fields that are not there", rec(optional("a", yes()), optional("b", rec(field("c", yes())))), dRec(nil), nil)
	wantAll(t, "optional fields that are there", rec(optional("a", yes()), optional("b", rec(field("c", yes())))), dRec(keys("a", "b"), dBool(0), dRec(keys("c"), dBool(1))), nil)
	wantAll(t, "empty rows", rec(optional("a", yes())), api.Doc{Kind: api.DRec, Keys: []string{}, Kids: []api.Doc{}}, nil)
}

func TestP5_2AtTheTop(t *testing.T) {
	for _, c := range []struct {
		what string
		t    api.Type
		d    api.Doc
		want api.Errno
	}{
		{"a number out of range", number(3, 9), dInt(2), api.ErrRange},
		{"a number of another type", number(3, 9), dBytes("3"), api.ErrType},
		{"too short", str(2, 3), dBytes("a"), api.ErrRange},
		{"of no such name", enum("a", "b"), dBytes("c"), api.ErrRange},
		{"no bool", yes(), dInt(1), api.ErrType},
		{"no record", rec(field("a", yes())), dDict(keys("a"), dBool(1)), api.ErrType},
		{"no dict", dict(0, 1, yes()), dRec(keys("a"), dBool(1)), api.ErrType},
		{"no list", list(0, 1, yes()), dBool(1), api.ErrType},
		{"a dict of too few", dict(1, 1, yes()), dDict(nil), api.ErrRange},
		{"a list of too few", list(1, 1, yes()), dList(), api.ErrRange},
	} {
		wantAll(t, c.what, c.t, c.d, faults(fault(c.want)))
	}
}

func TestP5_2Fields(t *testing.T) {
	x := rec(field("b", number(3, 9)), optional("d", yes()), field("f", str(1, 2)))
	n, o, s := dInt(3), dBool(1), dBytes("a")
	for _, c := range []struct {
		what string
		d    api.Doc
		want []api.Fault
	}{
		{"all", dRec(keys("b", "d", "f"), n, o, s), nil},
		{"all that must be", dRec(keys("b", "f"), n, s), nil},
		{"none", dRec(nil), faults(fault(api.ErrMiss, "b"), fault(api.ErrMiss, "f"))},
		{"the first missing", dRec(keys("f"), s), faults(fault(api.ErrMiss, "b"))},
		{"the last missing", dRec(keys("b", "d"), n, o), faults(fault(api.ErrMiss, "f"))},
		{"the optional one alone", dRec(keys("d"), o), faults(fault(api.ErrMiss, "b"), fault(api.ErrMiss, "f"))},
		{"an optional one that is wrong", dRec(keys("b", "d", "f"), n, n, s), faults(fault(api.ErrType, "d"))},
		{"all wrong", dRec(keys("b", "d", "f"), dInt(2), s, n), faults(fault(api.ErrRange, "b"), fault(api.ErrType, "d"), fault(api.ErrType, "f"))},
		{"more, ahead of all", dRec(keys("a", "b", "f"), n, n, s), faults(fault(api.ErrMore, "a"))},
		{"more, between", dRec(keys("b", "c", "e", "f"), n, n, n, s), faults(fault(api.ErrMore, "c"), fault(api.ErrMore, "e"))},
		{"more, behind all", dRec(keys("b", "f", "f0", "g"), n, s, n, n), faults(fault(api.ErrMore, "f0"), fault(api.ErrMore, "g"))},
		{"more alone", dRec(keys("a", "c"), n, n), faults(fault(api.ErrMiss, "b"), fault(api.ErrMiss, "f"), fault(api.ErrMore, "a"), fault(api.ErrMore, "c"))},
		{"more behind what is wrong", dRec(keys("a", "b", "d", "e"), n, s, n, n), faults(fault(api.ErrType, "b"), fault(api.ErrType, "d"), fault(api.ErrMiss, "f"), fault(api.ErrMore, "a"), fault(api.ErrMore, "e"))},
		{"what is more is not gone into", dRec(keys("a", "b", "f"), dRec(keys("b"), s), n, s), faults(fault(api.ErrMore, "a"))},
	} {
		wantAll(t, c.what, x, c.d, c.want)
	}
	wantAll(t, "the example", rec(field("n", number(3, 9)), optional("o", yes())), dRec(keys("n", "x"), dInt(1), dInt(2)), faults(fault(api.ErrRange, "n"), fault(api.ErrMore, "x")))
	wantAll(t, "no fields", rec(), dRec(keys("a", "b"), n, dList()), faults(fault(api.ErrMore, "a"), fault(api.ErrMore, "b")))
}

// A field of a record is no place of a list, nor a key of a dictionary, whatever it is called.
func TestP5_2Kids(t *testing.T) {
	n := number(3, 9)
	for _, c := range []struct {
		what string
		t    api.Type
		d    api.Doc
		want []api.Fault
	}{
		{"a dict's kids", dict(0, 9, n), dDict(keys("", "a", "b", "\xff"), dInt(2), dInt(3), dBool(1), dInt(10)), faults(fault(api.ErrRange, ""), fault(api.ErrType, "b"), fault(api.ErrRange, "\xff"))},
		{"a list's kids", list(0, 9, n), dList(dInt(3), dInt(2), dBool(1), dInt(9), dInt(10)), faults(fault(api.ErrRange, "1"), fault(api.ErrType, "2"), fault(api.ErrRange, "4"))},
		{"a dict's kids, one too few", dict(3, 9, n), dDict(keys("A", "k 1"), dInt(2), dList()), faults(fault(api.ErrRange), fault(api.ErrRange, "A"), fault(api.ErrType, "k 1"))},
		{"a dict's kids, one too many", dict(0, 1, n), dDict(keys("A", "k 1"), dInt(3), dList()), faults(fault(api.ErrRange), fault(api.ErrType, "k 1"))},
		{"a list's kids, one too few", list(2, 2, n), dList(dInt(2)), faults(fault(api.ErrRange), fault(api.ErrRange, "0"))},
		{"a list's kids, one too many", list(0, 1, n), dList(dInt(3), dInt(2)), faults(fault(api.ErrRange), fault(api.ErrRange, "1"))},
		{"good kids, one too many", list(0, 1, n), dList(dInt(3), dInt(4)), faults(fault(api.ErrRange))},
		{"lists of lists", list(0, 2, list(1, 2, n)), dList(dList(), dList(dInt(3), dInt(0)), dList(dInt(0), dInt(4), dInt(0))), faults(fault(api.ErrRange), fault(api.ErrRange, "0"), fault(api.ErrRange, "1", "1"), fault(api.ErrRange, "2"), fault(api.ErrRange, "2", "0"), fault(api.ErrRange, "2", "2"))},
		{"of another type, not gone into", list(0, 2, n), dDict(keys("a"), dBool(1)), faults(fault(api.ErrType))},
		{"a kid of another type, not gone into", list(0, 2, list(0, 1, n)), dList(dDict(keys("a"), dBool(1)), dRec(keys("a"), dBool(1))), faults(fault(api.ErrType, "0"), fault(api.ErrType, "1"))},
		{"records in a dict", dict(0, 2, rec(field("a", n))), dDict(keys("x", "y"), dRec(nil), dRec(keys("a", "b"), dInt(1), dInt(1))), faults(fault(api.ErrMiss, "x", "a"), fault(api.ErrRange, "y", "a"), fault(api.ErrMore, "y", "b"))},
	} {
		wantAll(t, c.what, c.t, c.d, c.want)
	}
	many := list(0, api.MaxParts, n)
	var want []api.Fault
	for i := range api.MaxParts - 1 {
		want = append(want, fault(api.ErrRange, strconv.Itoa(i)))
	}
	wantAll(t, "as many kids as may be", many, dList(slices.Repeat([]api.Doc{dInt(1)}, api.MaxParts-1)...), want)
}

// What is too much in a record is told behind all its fields, those of records within it too.
func TestP5_2Order(t *testing.T) {
	d := dRec(keys("a", "d", "l", "m"),
		dInt(1),
		dDict(keys("p", "q", "r", "s"), dRec(keys("n", "x"), dInt(2), dInt(1)), dRec(keys("a", "o"), dInt(1), dInt(1)), dInt(1), dRec(keys("n"), dInt(9))),
		dList(dBytes(""), dBytes("a"), dBytes("aaa")),
		dInt(1),
	)
	want := faults(
		fault(api.ErrRange, "d"),
		fault(api.ErrRange, "d", "p", "n"), fault(api.ErrMore, "d", "p", "x"),
		fault(api.ErrMiss, "d", "q", "n"), fault(api.ErrType, "d", "q", "o"), fault(api.ErrMore, "d", "q", "a"),
		fault(api.ErrType, "d", "r"),
		fault(api.ErrMiss, "e"),
		fault(api.ErrRange, "l"), fault(api.ErrRange, "l", "0"), fault(api.ErrRange, "l", "2"),
		fault(api.ErrMore, "a"), fault(api.ErrMore, "m"),
	)
	wantAll(t, "many", sample(), d, want)
	d.Keys, d.Kids = append(d.Keys, "o"), append(d.Kids, dRec(keys("y"), dInt(1)))
	want = slices.Insert(want, 11, fault(api.ErrMiss, "o", "x"), fault(api.ErrMore, "o", "y"))
	wantAll(t, "many more", sample(), d, want)
}

func TestP5_2Limits(t *testing.T) {
	x, want := rec(), []api.Fault(nil)
	for _, name := range names(api.MaxFields) {
		x.Fields = append(x.Fields, field(name, yes()))
		want = append(want, fault(api.ErrMiss, name))
	}
	wantAll(t, "all fields missing", x, dRec(nil), want)
	d := dRec(nil)
	for i := range api.MaxParts - 1 {
		key := "m" + strconv.Itoa(1000+i)
		d.Keys, d.Kids = append(d.Keys, key), append(d.Kids, dBool(1))
		want = append(want, fault(api.ErrMore, key))
	}
	wantAll(t, "all fields missing, and as many more as may be", x, d, want)
	path := slices.Repeat(keys("0"), api.MaxDepth-1)
	wantAll(t, "at the greatest depth", nested(api.MaxDepth, number(3, 9)), dNested(api.MaxDepth, dInt(2)), faults(fault(api.ErrRange, path...)))
	wantAll(t, "at the greatest depth, of another type", nested(api.MaxDepth, number(3, 9)), dNested(api.MaxDepth, dList()), faults(fault(api.ErrType, path...)))
	wantAll(t, "too little at the greatest depth", nested(api.MaxDepth, yes()), dNested(api.MaxDepth-1, dList()), faults(fault(api.ErrRange, path[1:]...)))
}

// Paths of all lengths that are alike but for their ends.
func TestP5_2LongPaths(t *testing.T) {
	for depth := 1; depth < 7; depth++ {
		p := bushy(depth)
		wantAll(t, "of depth "+strconv.Itoa(depth), p.t, p.d, told(p.t, p.d))
	}
	got := valid.All(bushy(6).t, bushy(6).d)
	if first, last := fault(api.ErrRange), fault(api.ErrMore, "1", "f"); len(got) < 60 || showFault(got[0]) != showFault(first) || showFault(got[len(got)-1]) != showFault(last) {
		t.Errorf("%d faults: %s", len(got), short(showFaults(got)))
	}
	path := keys("0", "0", "0", "0", "0", "0", "0", "0", "0", "0")
	want := faults(
		fault(api.ErrRange, path...),
		fault(api.ErrRange, slices.Concat(path, keys("0"))...), fault(api.ErrType, slices.Concat(path, keys("1"))...), fault(api.ErrRange, slices.Concat(path, keys("2"))...),
	)
	wantAll(t, "at the end of a long path", nested(api.MaxDepth, number(3, 9)), dNested(api.MaxDepth-1, dList(dInt(1), dBool(1), dInt(1))), want)
}

// What is not right is told of alone, without a path.
func TestP5_2Arg(t *testing.T) {
	arg := faults(fault(api.ErrArg))
	for what, p := range kinds() {
		for why, x := range wrongTypes() {
			wantAll(t, what+" of a type: "+why, x, p.d, arg)
		}
		for why, d := range wrongDocs() {
			wantAll(t, what+", and a document: "+why, p.t, d, arg)
			wantAll(t, what+", and a list of a document: "+why, p.t, dList(d), arg)
		}
	}
	wantAll(t, "neither", api.Type{}, api.Doc{}, arg)
	wantAll(t, "wrong in a field that is too much", rec(), dRec(keys("a"), dBool(2)), arg)
	wantAll(t, "wrong behind a fault", list(0, 9, yes()), dList(dInt(1), dBool(2)), arg)
	wantAll(t, "a wrong type of a field that is not there", rec(optional("a", number(1, 0))), dRec(nil), arg)
}

// spot is a part of a document, and the type that it is held to; or what is told of it already.
type spot struct {
	t    api.Type
	d    api.Doc
	path []string
	err  api.Errno
}

// told is what All must tell of what is right: spots are taken from the front, and those below one laid ahead of the rest.
func told(t api.Type, d api.Doc) []api.Fault {
	var l []api.Fault
	for next := []spot{{t: t, d: d}}; len(next) > 0; {
		s := next[0]
		next = next[1:]
		if s.err == api.OK {
			s.err = rootErr(s.t, s.d)
			if s.err != api.ErrType {
				next = slices.Concat(below(s), next)
			}
		}
		if s.err != api.OK {
			l = append(l, api.Fault{Path: s.path, Err: s.err})
		}
	}
	return l
}

func rootErr(t api.Type, d api.Doc) api.Errno {
	if want := []int{0, api.DRec, api.DDict, api.DList, api.DInt, api.DBool, api.DBytes, api.DBytes}[t.Kind]; d.Kind != want {
		return api.ErrType
	}
	n := []int{0, 0, len(d.Kids), len(d.Kids), d.Num, 0, len(d.Str), 0}[t.Kind]
	named := 0
	for _, name := range t.Names {
		if name == d.Str {
			named++
		}
	}
	if n < t.Lo || n > t.Hi || t.Kind == api.TEnum && named == 0 {
		return api.ErrRange
	}
	return api.OK
}

func below(s spot) []spot {
	var l []spot
	if s.t.Kind != api.TRec {
		for i, kid := range s.d.Kids {
			key := strconv.Itoa(i)
			if s.d.Kind == api.DDict {
				key = s.d.Keys[i]
			}
			l = append(l, spot{t: s.t.Of[0], d: kid, path: slices.Concat(s.path, keys(key))})
		}
		return l
	}
	kids := map[string]api.Doc{}
	for i, key := range s.d.Keys {
		kids[key] = s.d.Kids[i]
	}
	for _, f := range s.t.Fields {
		kid, is := kids[f.Name]
		delete(kids, f.Name)
		switch path := slices.Concat(s.path, keys(f.Name)); {
		case is:
			l = append(l, spot{t: f.Type, d: kid, path: path})
		case !f.Optional:
			l = append(l, spot{path: path, err: api.ErrMiss})
		}
	}
	for _, key := range s.d.Keys {
		if _, left := kids[key]; left {
			l = append(l, spot{path: slices.Concat(s.path, keys(key)), err: api.ErrMore})
		}
	}
	return l
}

func TestP5_2AnyPairs(t *testing.T) {
	often := map[api.Errno]int{}
	for _, p := range anyPairs() {
		want := told(p.t, p.d)
		wantAll(t, showType(p.t)+" of "+show(p.d), p.t, p.d, want)
		for _, f := range want {
			often[f.Err]++
		}
		if len(want) == 0 {
			often[api.OK]++
		}
		wantFits(t, "at the top", p.t, p.d, rootErr(p.t, p.d))
	}
	for _, err := range []api.Errno{api.OK, api.ErrType, api.ErrRange, api.ErrMiss, api.ErrMore} {
		if often[err] < 300 {
			t.Errorf("%v came %d times alone", err, often[err])
		}
	}
}
