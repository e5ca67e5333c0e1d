package doc_test

import (
	"math/rand/v2"
	"slices"
	"strconv"
	"strings"
	"testing"

	"cabochon/api"
	"cabochon/doc"
)

// sample is {a = [5, 7, {x = 1}], b = <"": 2, "k": [3]>, c = 4}.
func sample() api.Doc {
	return rec(keys("a", "b", "c"), list(num(5), num(7), rec(keys("x"), num(1))), dict(keys("", "k"), num(2), list(num(3))), num(4))
}

func TestP1_3Get(t *testing.T) {
	d := sample()
	for _, c := range []struct {
		path []string
		want api.Doc
	}{
		{nil, d},
		{keys("a"), d.Kids[0]},
		{keys("a", "0"), num(5)},
		{keys("a", "1"), num(7)},
		{keys("a", "2"), rec(keys("x"), num(1))},
		{keys("a", "2", "x"), num(1)},
		{keys("b"), d.Kids[1]},
		{keys("b", ""), num(2)},
		{keys("b", "k", "0"), num(3)},
		{keys("c"), num(4)},
	} {
		got, is := doc.Get(d, c.path...)
		if !is {
			t.Errorf("%q: nothing", c.path)
		}
		wantDoc(t, strings.Join(c.path, "."), got, c.want)
	}
}

func TestP1_3GetNothing(t *testing.T) {
	for _, path := range [][]string{
		{""}, {"d"}, {"A"}, {"0"}, {"1"}, {"a", "3"}, {"a", ""}, {"a", "-1"}, {"a", "-0"}, {"a", "+1"}, {"a", "01"}, {"a", "00"}, {"a", " 1"}, {"a", "1 "},
		{"a", "0x1"}, {"a", "1_0"}, {"a", "1.0"}, {"a", "1e0"}, {"a", "x"}, {"a", "\u0661"}, {"a", "9223372036854775807"}, {"a", "9223372036854775808"},
		{"a", "18446744073709551616"}, {"a", "18446744073709551617"}, {"a", strings.Repeat("9", 1000)}, {"a", "1" + strings.Repeat("0", 64)},
		{"a", "0", ""}, {"a", "0", "0"}, {"a", "2", "y"}, {"a", "2", "0"}, {"b", "x"}, {"b", "0"}, {"b", "k", "1"}, {"b", "k", "0", "0"}, {"c", ""}, {"c", "0"}, {"c", "c"}, {"d", "a"},
	} {
		got, is := doc.Get(sample(), path...)
		if is {
			t.Errorf("%q: something", path)
		}
		wantZero(t, strings.Join(path, "."), got)
	}
}

func TestP1_3GetOfWrongOnes(t *testing.T) {
	for _, c := range []struct {
		what string
		d    api.Doc
		path []string
		want int // 0: nothing
	}{
		{"the first of alike keys", rec(keys("a", "a"), num(1), num(2)), keys("a"), 1},
		{"the first, of a dict", dict(keys("b", "a", "b"), num(1), num(2), num(3)), keys("b"), 1},
		{"falling keys", rec(keys("c", "b", "a"), num(1), num(2), num(3)), keys("a"), 3},
		{"a key that is no name", rec(keys("A"), num(1)), keys("A"), 1},
		{"a key without a kid", rec(keys("a", "b"), num(1)), keys("b"), 0},
		{"alike keys, a kid", rec(keys("b", "a", "a"), num(1), num(2)), keys("a"), 2},
		{"alike keys without kids", rec(keys("b", "a", "a"), num(1)), keys("a"), 0},
		{"no kids", dict(keys("a")), keys("a"), 0},
		{"no keys", dict(nil, num(1)), keys(""), 0},
		{"a place in a record", rec(nil, num(1)), keys("0"), 0},
		{"keys of a list", api.Doc{Kind: api.DList, Keys: keys("a"), Kids: []api.Doc{num(1)}}, keys("a"), 0},
		{"a list with keys", api.Doc{Kind: api.DList, Keys: keys("1", "0"), Kids: []api.Doc{num(1), num(2)}}, keys("1"), 2},
		{"kids of a number", api.Doc{Kind: api.DInt, Keys: keys("a"), Kids: []api.Doc{num(1)}}, keys("a"), 0},
		{"kids of bytes", api.Doc{Kind: api.DBytes, Kids: []api.Doc{num(1)}}, keys("0"), 0},
		{"kids of no kind", api.Doc{Keys: keys("a"), Kids: []api.Doc{num(1)}}, keys("a"), 0},
		{"kids of a kind above", api.Doc{Kind: 7, Keys: keys("0"), Kids: []api.Doc{num(1)}}, keys("0"), 0},
		{"through what is not right", list(api.Doc{Kind: api.DRec, Num: 7, Keys: keys("a"), Kids: []api.Doc{num(4)}}), keys("0", "a"), 4},
	} {
		got, is := doc.Get(c.d, c.path...)
		if is != (c.want != 0) {
			t.Errorf("%s: %v", c.what, is)
		}
		if is {
			wantDoc(t, c.what, got, num(c.want))
		} else {
			wantZero(t, c.what, got)
		}
	}
	for what, d := range wrong() {
		got, is := doc.Get(d)
		if !is {
			t.Errorf("%s: nothing at no path", what)
		}
		wantDoc(t, what, got, d)
	}
}

func TestP1_3GetAtGreatPlaces(t *testing.T) {
	d := wide(1 << 17)
	for _, n := range []int{0, 9, 10, 99, 100, 65536, 1<<17 - 2} {
		if got, is := doc.Get(d, strconv.Itoa(n)); !is || got.Num != n {
			t.Errorf("%d: %d, %v", n, got.Num, is)
		}
	}
	if _, is := doc.Get(d, strconv.Itoa(1<<17-1)); is {
		t.Error("there is one behind the last one")
	}
	deep := slices.Repeat(keys("0"), 1<<16)
	if got, is := doc.Get(chain(1<<16), deep[1:]...); !is || len(got.Kids) != 0 {
		t.Error("the end of a chain")
	}
	if _, is := doc.Get(chain(1<<16), deep...); is {
		t.Error("below the end of a chain")
	}
}

func TestP1_4Put(t *testing.T) {
	x, name, key := num(99), strings.Repeat("m", api.MaxName), strings.Repeat("K", api.MaxBytes)
	for _, c := range []struct {
		what string
		d    api.Doc
		path []string
		want api.Doc
	}{
		{"at no path", sample(), nil, x},
		{"at no path of a number", num(1), []string{}, x},
		{"instead of a field", rec(keys("a", "b"), num(1), num(2)), keys("a"), rec(keys("a", "b"), x, num(2))},
		{"instead of the last field", rec(keys("a", "b"), num(1), num(2)), keys("b"), rec(keys("a", "b"), num(1), x)},
		{"instead of an entry", dict(keys("", "b"), num(1), num(2)), keys(""), dict(keys("", "b"), x, num(2))},
		{"instead of a kid", list(num(1), num(2), num(3)), keys("1"), list(num(1), x, num(3))},
		{"instead of much", rec(keys("a"), sample()), keys("a"), rec(keys("a"), x)},
		{"a first field", rec(nil), keys("a"), rec(keys("a"), x)},
		{"a field ahead", rec(keys("b", "c"), num(1), num(2)), keys("a"), rec(keys("a", "b", "c"), x, num(1), num(2))},
		{"a field between", rec(keys("a", "c"), num(1), num(2)), keys("b"), rec(keys("a", "b", "c"), num(1), x, num(2))},
		{"a field behind", rec(keys("a", "b"), num(1), num(2)), keys("c"), rec(keys("a", "b", "c"), num(1), num(2), x)},
		{"a field by its bytes", rec(keys("a", "ab"), num(1), num(2)), keys("a_"), rec(keys("a", "a_", "ab"), num(1), x, num(2))},
		{"a field of a long name", rec(nil), keys(name), rec(keys(name), x)},
		{"a first entry", dict([]string{}), keys(""), dict(keys(""), x)},
		{"an entry between", dict(keys("", "a"), num(1), num(2)), keys("A"), dict(keys("", "A", "a"), num(1), x, num(2))},
		{"an entry of digits", dict(keys("1"), num(1)), keys("01"), dict(keys("01", "1"), x, num(1))},
		{"an entry of a long key", dict(keys("J"), num(1)), keys(key), dict(keys("J", key), num(1), x)},
		{"a first kid", list(), keys("0"), list(x)},
		{"a kid behind", list(num(1), num(2)), keys("2"), list(num(1), num(2), x)},
		{"the eleventh kid", wide(11), keys("10"), list(append(wide(11).Kids, x)...)},
		{"below", rec(keys("a", "b"), list(num(1), dict(keys("k"), num(2))), num(3)), keys("a", "1", "j"), rec(keys("a", "b"), list(num(1), dict(keys("j", "k"), x, num(2))), num(3))},
		{"below, instead", list(list(num(1)), list(num(2), num(3))), keys("1", "0"), list(list(num(1)), list(x, num(3)))},
	} {
		got, err := doc.Put(c.d, x, c.path...)
		if err != api.OK {
			t.Errorf("%s: %v", c.what, err)
		}
		wantDoc(t, c.what, got, c.want)
	}
}

// What is told may be too deep, or have too many parts: it is told all the same.
func TestP1_4PutPastTheLimits(t *testing.T) {
	deep, err := doc.Put(chain(api.MaxDepth), chain(api.MaxDepth), slices.Repeat(keys("0"), api.MaxDepth)...)
	if err != api.OK || doc.Depth(deep) != 2*api.MaxDepth || doc.Right(deep) {
		t.Errorf("depth %d, %v", doc.Depth(deep), err)
	}
	full, err := doc.Put(wide(api.MaxParts), wide(api.MaxParts), strconv.Itoa(api.MaxParts-1))
	if err != api.OK || doc.Size(full) != 2*api.MaxParts || doc.Right(full) {
		t.Errorf("%d parts, %v", doc.Size(full), err)
	}
}

func TestP1_4PutNowhere(t *testing.T) {
	for _, path := range [][]string{
		{""}, {"A"}, {"_a"}, {"0"}, {"a-b"}, {strings.Repeat("m", api.MaxName+1)}, {"d", "a"}, {"d", "0"},
		{"a", "4"}, {"a", "03"}, {"a", "+3"}, {"a", "-1"}, {"a", ""}, {"a", "x"}, {"a", "18446744073709551619"}, {"a", "3", "a"},
		{"a", "0", "a"}, {"a", "0", "0"}, {"a", "2", "X"}, {"a", "2", "y", "z"}, {"b", strings.Repeat("K", api.MaxBytes+1)}, {"b", "x", "y"}, {"b", "k", "2"}, {"b", "k", "01"},
		{"c", "a"}, {"c", "0"}, {"c", ""}, slices.Repeat(keys("a"), 1<<16),
	} {
		got, err := doc.Put(sample(), num(99), path...)
		if err != api.ErrNone {
			t.Errorf("%q: %v", path, err)
		}
		wantZero(t, "beside an error", got)
	}
	for _, d := range []api.Doc{num(0), {Kind: api.DBool}, str("a"), list()} {
		for _, part := range []string{"a", "", "1"} {
			if got, err := doc.Put(d, num(1), part); err != api.ErrNone {
				t.Errorf("%s at %q: %s, %v", show(d), part, show(got), err)
			}
		}
	}
}

func TestP1_4PutOfWrongOnes(t *testing.T) {
	for what, d := range wrong() {
		for _, path := range [][]string{nil, {"a"}, {"0"}, {"zz", "zz"}} {
			got, err := doc.Put(d, num(1), path...)
			if err != api.ErrArg {
				t.Errorf("into %s at %q: %v", what, path, err)
			}
			wantZero(t, what, got)
			got, err = doc.Put(sample(), d, path...)
			if err != api.ErrArg {
				t.Errorf("of %s at %q: %v", what, path, err)
			}
			wantZero(t, what, got)
		}
	}
	for what, d := range right() {
		if got, err := doc.Put(d, d); err != api.OK || show(got) != show(d) {
			t.Errorf("%s: %v", what, err)
		}
		if _, err := doc.Put(sample(), d, "a"); err != api.OK {
			t.Errorf("%s: %v", what, err)
		}
	}
}

func TestP1_4Drop(t *testing.T) {
	for _, c := range []struct {
		what string
		d    api.Doc
		path []string
		want api.Doc
	}{
		{"the only field", rec(keys("a"), num(1)), keys("a"), rec(nil)},
		{"the first field", rec(keys("a", "b", "c"), num(1), num(2), num(3)), keys("a"), rec(keys("b", "c"), num(2), num(3))},
		{"a field", rec(keys("a", "b", "c"), num(1), num(2), num(3)), keys("b"), rec(keys("a", "c"), num(1), num(3))},
		{"the last field", rec(keys("a", "b", "c"), num(1), num(2), num(3)), keys("c"), rec(keys("a", "b"), num(1), num(2))},
		{"an entry", dict(keys("", "A"), num(1), num(2)), keys(""), dict(keys("A"), num(2))},
		{"the only kid", list(num(1)), keys("0"), list()},
		{"the first kid", list(num(1), num(2), num(3)), keys("0"), list(num(2), num(3))},
		{"a kid", list(num(1), num(2), num(3)), keys("1"), list(num(1), num(3))},
		{"the last kid", list(num(1), num(2), num(3)), keys("2"), list(num(1), num(2))},
		{"much", list(sample(), num(1)), keys("0"), list(num(1))},
		{"below", rec(keys("a", "b"), list(num(1), dict(keys("j", "k"), num(2), num(3))), num(4)), keys("a", "1", "j"), rec(keys("a", "b"), list(num(1), dict(keys("k"), num(3))), num(4))},
		{"of the deepest", chain(api.MaxDepth), slices.Repeat(keys("0"), api.MaxDepth-1), chain(api.MaxDepth - 1)},
	} {
		got, err := doc.Drop(c.d, c.path...)
		if err != api.OK {
			t.Errorf("%s: %v", c.what, err)
		}
		wantDoc(t, c.what, got, c.want)
	}
}

func TestP1_4DropNothing(t *testing.T) {
	for _, path := range [][]string{
		{""}, {"d"}, {"0"}, {"A"}, {"a", "3"}, {"a", "01"}, {"a", "-1"}, {"a", ""}, {"a", "18446744073709551616"}, {"a", "0", "0"}, {"a", "2", "y"}, {"b", "x"}, {"b", "k", "1"}, {"c", "c"}, {"c", "0"}, {"d", "a"},
		{"a", "3", "0"}, slices.Repeat(keys("a"), 1<<16),
	} {
		got, err := doc.Drop(sample(), path...)
		if err != api.ErrNone {
			t.Errorf("%q: %v", path, err)
		}
		wantZero(t, "beside an error", got)
	}
}

func TestP1_4DropOfWrongOnes(t *testing.T) {
	for what, d := range wrong() {
		for _, path := range [][]string{nil, {"a"}, {"0"}, {"zz", "zz"}} {
			got, err := doc.Drop(d, path...)
			if err != api.ErrArg {
				t.Errorf("%s at %q: %v", what, path, err)
			}
			wantZero(t, what, got)
		}
	}
	for what, d := range right() {
		got, err := doc.Drop(d, []string{}...)
		if err != api.ErrArg {
			t.Errorf("%s at no path: %v", what, err)
		}
		wantZero(t, what, got)
	}
}

// keep runs a call on d, and looks whether d, its spare room, and what else is given stay as they are, whatever is done to the answer.
func keep(t *testing.T, what string, call func(d api.Doc, path []string) api.Doc, path ...string) {
	t.Helper()
	d := roomy(sample())
	before := showRoom(d)
	given := append(slices.Clone(path), "spare")
	got := call(d, given[:len(path)])
	answer := show(got)
	if showRoom(d) != before || !slices.Equal(given, append(slices.Clone(path), "spare")) {
		t.Errorf("%s: what is handed in is changed", what)
	}
	scribble(got)
	if showRoom(d) != before {
		t.Errorf("%s: the answer shares memory with what is handed in", what)
	}
	got = call(d, given[:len(path)])
	if show(got) != answer {
		t.Errorf("%s: called again it answers %s", what, show(got))
	}
	scribble(d)
	if show(got) != answer {
		t.Errorf("%s: what is handed in is kept", what)
	}
	if !apart(got) {
		t.Errorf("%s: rows of the answer share memory", what)
	}
}

func TestP1_6Memory(t *testing.T) {
	x := list(num(1), rec(keys("y"), num(2)))
	get := func(d api.Doc, path []string) api.Doc { got, _ := doc.Get(d, path...); return got }
	put := func(d api.Doc, path []string) api.Doc { got, _ := doc.Put(d, x, path...); return got }
	self := func(d api.Doc, path []string) api.Doc { got, _ := doc.Put(d, d, path...); return got }
	drop := func(d api.Doc, path []string) api.Doc { got, _ := doc.Drop(d, path...); return got }
	for _, path := range [][]string{{}, {"a"}, {"a", "0"}, {"a", "2"}, {"a", "2", "x"}, {"b"}, {"b", "k"}, {"a", "3"}, {"aa"}, {"d"}, {"b", "c"}} {
		keep(t, "Get", get, path...)
		keep(t, "Put", put, path...)
		keep(t, "Put into itself", self, path...)
		keep(t, "Drop", drop, path...)
	}
	if show(x) != show(list(num(1), rec(keys("y"), num(2)))) {
		t.Error("Put changes what is put")
	}
	keep(t, "Copy", func(d api.Doc, _ []string) api.Doc { return doc.Copy(d) })
	keep(t, "List", func(d api.Doc, _ []string) api.Doc { return doc.List(d.Kids...) })
	keep(t, "List of alike ones", func(d api.Doc, _ []string) api.Doc { return doc.List(d, d) })
	keep(t, "Rec", func(d api.Doc, _ []string) api.Doc { return doc.Rec(d.Keys, d.Kids) })
	keep(t, "Rec of path", func(d api.Doc, path []string) api.Doc { return doc.Rec(path, []api.Doc{d, d, d}) }, "b", "a", "b")
	keep(t, "those that only look", func(d api.Doc, _ []string) api.Doc {
		if !doc.Right(d) || !doc.Same(d, d) || doc.Compare(d, d) != 0 {
			return api.Doc{}
		}
		return doc.List(doc.Int(doc.Depth(d)), doc.Int(doc.Size(d)))
	})
}

func TestP1_6WhatIsPutIsNotShared(t *testing.T) {
	x := roomy(list(num(1), rec(keys("y"), num(2))))
	before := showRoom(x)
	for _, path := range [][]string{nil, {"a"}, {"a", "0"}, {"a", "3"}, {"b", "new"}, {"d"}} {
		got, err := doc.Put(sample(), x, path...)
		if err != api.OK {
			t.Errorf("%q: %v", path, err)
		}
		scribble(got)
		if showRoom(x) != before {
			t.Errorf("%q: what is put is shared", path)
		}
	}
}

func TestP1_7WhatIsPutIsGot(t *testing.T) {
	r := rand.New(rand.NewPCG(5, 6))
	docs, count := randoms(400), 0
	for _, d := range docs {
		x, path := docs[r.IntN(len(docs))], randomPath(r, d)
		got, err := doc.Put(d, x, path...)
		if err != api.OK {
			continue
		}
		count++
		back, is := doc.Get(got, path...)
		if !is || show(back) != show(x) {
			t.Errorf("put into %s at %q: %s is not %s", show(d), path, show(back), show(x))
		}
		if !doc.Right(got) {
			t.Errorf("put into %s at %q: %s is not right", show(d), path, show(got))
		}
		if _, was := doc.Get(d, path...); was || len(path) == 0 {
			continue
		}
		if gone, err := doc.Drop(got, path...); err != api.OK || show(gone) != show(d) {
			t.Errorf("put into %s at %q, and dropped: %s, %v", show(d), path, show(gone), err)
		}
	}
	if count < 100 {
		t.Errorf("only %d were put", count)
	}
}

func TestP1_7WhatIsDroppedIsNotThere(t *testing.T) {
	r := rand.New(rand.NewPCG(7, 8))
	count := 0
	for _, d := range randoms(800) {
		path := randomPath(r, d)
		x, is := doc.Get(d, path...)
		got, err := doc.Drop(d, path...)
		if len(path) == 0 || !is {
			if err == api.OK {
				t.Errorf("dropped of %s at %q", show(d), path)
			}
			continue
		}
		count++
		if err != api.OK || !doc.Right(got) || doc.Size(got) != doc.Size(d)-doc.Size(x) {
			t.Errorf("dropped of %s at %q: %s, %v", show(d), path, show(got), err)
		}
		home, _ := doc.Get(d, path[:len(path)-1]...)
		now, there := doc.Get(got, path...)
		if home.Kind != api.DList {
			if there {
				t.Errorf("dropped of %s at %q: it is still there", show(d), path)
			}
			continue
		}
		if n, _ := strconv.Atoi(path[len(path)-1]); n+1 < len(home.Kids) {
			wantDoc(t, "what moved up", now, home.Kids[n+1])
		} else if there {
			t.Errorf("dropped of %s at %q: it is still there", show(d), path)
		}
	}
	if count < 100 {
		t.Errorf("only %d were dropped", count)
	}
}

func TestP1_7CompareOrders(t *testing.T) {
	docs := append(randoms(150), ladder()...)
	slices.SortFunc(docs, doc.Compare)
	for i, a := range docs {
		for j, b := range docs {
			c := doc.Compare(a, b)
			if c != -doc.Compare(b, a) || (c == 0) != (show(a) == show(b)) || (c == 0) != doc.Same(a, b) {
				t.Errorf("Compare(%s, %s) is %d", show(a), show(b), c)
			}
			if i < j && c > 0 {
				t.Errorf("no order: %s is behind %s", show(a), show(b))
			}
		}
	}
}
