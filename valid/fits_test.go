package valid_test

import (
	"slices"
	"strconv"
	"strings"
	"testing"

	"cabochon/api"
	"cabochon/valid"
)

func wantFits(t *testing.T, what string, x api.Type, d api.Doc, want api.Errno) {
	t.Helper()
	if got := valid.Fits(x, d); got != want {
		t.Errorf("%s: %v, not %v: type %s, document %s", what, got, want, short(showType(x)), short(show(d)))
	}
}

// Each kind of types has just one kind of documents, whatever else stands in both.
func TestP5_1Kinds(t *testing.T) {
	docs := []api.Doc{dRec(nil), dDict(nil), dList(), dInt(0), dBool(0), dBytes("")}
	types := []api.Type{rec(), dict(0, 0, yes()), list(0, 0, yes()), number(0, 0), yes(), str(0, 0), enum("")}
	kind := []int{api.DRec, api.DDict, api.DList, api.DInt, api.DBool, api.DBytes, api.DBytes}
	for i, x := range types {
		for _, d := range docs {
			want := api.ErrType
			if d.Kind == kind[i] {
				want = api.OK
			}
			wantFits(t, "alike as far as may be", x, d, want)
		}
	}
}

// Of another kind is ahead of out of range.
func TestP5_1TypeAheadOfRange(t *testing.T) {
	docs := []api.Doc{dRec(nil), dDict(nil), dList(), dInt(0), dInt(1), dBool(0), dBool(1), dBytes("")}
	for _, c := range []struct {
		t    api.Type
		kind int
	}{
		{dict(2, 3, yes()), api.DDict}, {list(2, 3, yes()), api.DList}, {number(5, 9), api.DInt}, {number(-9, -5), api.DInt}, {str(2, 3), api.DBytes}, {enum("a", "b"), api.DBytes},
	} {
		for _, d := range docs {
			want := api.ErrType
			if d.Kind == c.kind {
				want = api.ErrRange
			}
			wantFits(t, "out of range", c.t, d, want)
		}
	}
}

// counted is a document of n kids, or bytes, or the number n, by the kind of the type.
func counted(kind, n int) api.Doc {
	switch kind {
	case api.TDict:
		return dDict(names(n), slices.Repeat([]api.Doc{dInt(7)}, n)...)
	case api.TList:
		return dList(slices.Repeat([]api.Doc{dInt(7)}, n)...)
	case api.TBytes:
		return dBytes(strings.Repeat("a", n))
	}
	return dInt(n)
}

func TestP5_1Ranges(t *testing.T) {
	for _, kind := range []int{api.TDict, api.TList, api.TInt, api.TBytes} {
		for lo := range 6 {
			for hi := lo; hi < 7; hi++ {
				for n := range 9 {
					x := api.Type{Kind: kind, Lo: lo, Hi: hi}
					if kind == api.TDict || kind == api.TList {
						x.Of = []api.Type{number(7, 7)}
					}
					want := api.OK
					if n < lo || n > hi {
						want = api.ErrRange
					}
					wantFits(t, "of "+strconv.Itoa(n), x, counted(kind, n), want)
				}
			}
		}
	}
}

func TestP5_1RangesAtTheirEnds(t *testing.T) {
	all := api.MaxParts - 1
	for _, c := range []struct {
		what string
		t    api.Type
		d    api.Doc
		want api.Errno
	}{
		{"the least of all", number(api.MinInt, api.MaxInt), dInt(api.MinInt), api.OK},
		{"the greatest of all", number(api.MinInt, api.MaxInt), dInt(api.MaxInt), api.OK},
		{"just the least", number(api.MinInt, api.MinInt), dInt(api.MinInt), api.OK},
		{"behind the least", number(api.MinInt, api.MinInt), dInt(api.MinInt + 1), api.ErrRange},
		{"far from the least", number(api.MinInt, api.MinInt), dInt(api.MaxInt), api.ErrRange},
		{"just the greatest", number(api.MaxInt, api.MaxInt), dInt(api.MaxInt), api.OK},
		{"ahead of the greatest", number(api.MaxInt, api.MaxInt), dInt(api.MaxInt - 1), api.ErrRange},
		{"far from the greatest", number(api.MaxInt, api.MaxInt), dInt(api.MinInt), api.ErrRange},
		{"all but the least", number(api.MinInt+1, api.MaxInt), dInt(api.MinInt), api.ErrRange},
		{"below 0", number(-9, -2), dInt(-2), api.OK},
		{"below 0, above", number(-9, -2), dInt(-1), api.ErrRange},
		{"below 0, below", number(-9, -2), dInt(-10), api.ErrRange},
		{"below 0, turned", number(-9, -2), dInt(5), api.ErrRange},
		{"a list of all parts", list(all, all, number(7, 7)), counted(api.TList, all), api.OK},
		{"a list of more than all", list(all+1, api.MaxInt, number(7, 7)), counted(api.TList, all), api.ErrRange},
		{"a list of less than all", list(0, all-1, number(7, 7)), counted(api.TList, all), api.ErrRange},
		{"a dict of all parts", dict(all, all, number(7, 7)), counted(api.TDict, all), api.OK},
		{"a dict of very many", dict(api.MaxInt, api.MaxInt, number(7, 7)), counted(api.TDict, all), api.ErrRange},
		{"a dict of none", dict(0, 0, number(7, 7)), counted(api.TDict, 1), api.ErrRange},
		{"all bytes", str(api.MaxBytes, api.MaxBytes), dBytes(strings.Repeat("\xff", api.MaxBytes)), api.OK},
		{"a byte less", str(api.MaxBytes, api.MaxBytes), dBytes(strings.Repeat("a", api.MaxBytes-1)), api.ErrRange},
		{"a byte more", str(0, api.MaxBytes-1), dBytes(strings.Repeat("a", api.MaxBytes)), api.ErrRange},
		{"two bytes that are one letter", str(2, 2), dBytes("ä"), api.OK},
		{"one letter of two bytes", str(1, 1), dBytes("ä"), api.ErrRange},
		{"a byte that is no letter", str(1, 1), dBytes("\xff"), api.OK},
		{"a byte 0", str(1, 1), dBytes("\x00"), api.OK},
	} {
		wantFits(t, c.what, c.t, c.d, c.want)
	}
}

func TestP5_1Enums(t *testing.T) {
	x := enum("aa", "b", "bb", "c")
	for _, name := range x.Names {
		wantFits(t, name, x, dBytes(name), api.OK)
	}
	for _, name := range []string{"", "a", "aaa", "ab", "B", "bbb", "b ", " b", "b\x00", "cc", "d", "\xff"} {
		wantFits(t, name, x, dBytes(name), api.ErrRange)
	}
	wantFits(t, "the empty one", enum("", "a"), dBytes(""), api.OK)
	wantFits(t, "an odd one", enum("\x00", "\xff"), dBytes("\xff"), api.OK)
	long := strings.Repeat("z", api.MaxBytes)
	wantFits(t, "a long one", enum("a", long), dBytes(long), api.OK)
	wantFits(t, "nearly a long one", enum("a", long), dBytes(long[1:]), api.ErrRange)
	wantFits(t, "the last of all", enum(names(api.MaxNames)...), dBytes(names(api.MaxNames)[api.MaxNames-1]), api.OK)
	wantFits(t, "one behind all", enum(names(api.MaxNames)...), dBytes(names(api.MaxNames + 1)[api.MaxNames]), api.ErrRange)
}

// A record, a dictionary and a list are told of without their kids, but for how many a dictionary and a list has.
func TestP5_1KidsAreLeftAside(t *testing.T) {
	r := rec(field("a", number(3, 9)), optional("b", yes()))
	for what, d := range map[string]api.Doc{
		"a field that is missing": dRec(nil),
		"a field too many":        dRec(keys("a", "c"), dInt(3), dInt(3)),
		"a field out of range":    dRec(keys("a"), dInt(1)),
		"a field of another type": dRec(keys("a", "b"), dList(), dInt(3)),
	} {
		wantFits(t, what, r, d, api.OK)
		wantFits(t, "a dict of "+what, dict(1, 1, r), dDict(keys("x"), d), api.OK)
		wantFits(t, "a list of "+what, list(1, 1, r), dList(d), api.OK)
		wantFits(t, "two of "+what, list(1, 1, r), dList(d, d), api.ErrRange)
	}
	wantFits(t, "a dict of something else", dict(2, 2, yes()), dDict(keys("", "x"), dInt(1), dList()), api.OK)
	wantFits(t, "a list of something else", list(2, 2, yes()), dList(dInt(1), dRec(nil)), api.OK)
}

// What is not right is told ahead of all else, wherever it stands.
func TestP5_1Arg(t *testing.T) {
	for what, p := range kinds() {
		wantFits(t, what, p.t, p.d, api.OK)
		for why, x := range wrongTypes() {
			wantFits(t, what+" of a type: "+why, x, p.d, api.ErrArg)
		}
		for why, d := range wrongDocs() {
			wantFits(t, what+", and a document: "+why, p.t, d, api.ErrArg)
			wantFits(t, what+", and a list of a document: "+why, p.t, dList(d), api.ErrArg)
		}
	}
	wantFits(t, "neither", api.Type{}, api.Doc{}, api.ErrArg)
	wantFits(t, "a list of what is not right, out of range", list(5, 5, yes()), dList(dBool(2)), api.ErrArg)
}
