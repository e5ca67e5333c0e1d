package schema_test

import (
	"slices"
	"strings"
	"testing"

	"cabochon/api"
	"cabochon/schema"
)

// sample is {a: dict of {n: int, o?: bool}, b?: list of list of int, c: int}.
func sample() api.Type {
	return rec(
		field("a", dict(0, 4, rec(field("n", number(3, 9)), optional("o", yes())))),
		optional("b", list(1, 1, list(2, 2, number(5, 5)))),
		field("c", number(0, 1)),
	)
}

func TestP4_2Field(t *testing.T) {
	long := strings.Repeat("m", api.MaxName)
	for _, c := range []struct {
		what string
		t    api.Type
		name string
		want int
	}{
		{"the first", sample(), "a", 0},
		{"an optional one", sample(), "b", 1},
		{"the last", sample(), "c", 2},
		{"none", sample(), "d", -1},
		{"none between", sample(), "aa", -1},
		{"of an empty name", sample(), "", -1},
		{"of no name", sample(), "A", -1},
		{"one within", sample(), "n", -1},
		{"a long name", rec(field("a", yes()), field(long, yes())), long, 1},
		{"a longer name", rec(field("a", yes()), field(long, yes())), long + "m", -1},
		{"of an empty record", rec(), "a", -1},
		{"the first of alike ones", rec(field("b", yes()), field("a", yes()), optional("a", number(0, 1)), field("b", yes())), "a", 1},
		{"falling ones", rec(field("c", yes()), field("b", yes()), field("a", yes())), "a", 2},
		{"a name that is none", rec(field("A", yes()), field("", yes())), "", 1},
		{"of a wrong record", api.Type{Kind: api.TRec, Lo: 7, Names: names(1), Fields: []api.Field{{}, {Name: "a"}}}, "a", 1},
		{"of a dict", dict(0, 1, yes()), "a", -1},
		{"a name of an enum", enum("a"), "a", -1},
	} {
		if got := schema.Field(c.t, c.name); got != c.want {
			t.Errorf("%s: %d, not %d", c.what, got, c.want)
		}
	}
	for kind := -1; kind < 9; kind++ {
		got := schema.Field(api.Type{Kind: kind, Fields: []api.Field{field("a", yes())}, Of: []api.Type{rec(field("a", yes()))}}, "a")
		if (got == 0) != (kind == api.TRec) || kind != api.TRec && got != -1 {
			t.Errorf("of kind %d: %d", kind, got)
		}
	}
}

func TestP4_2At(t *testing.T) {
	x := sample()
	for _, c := range []struct {
		path []string
		want api.Type
	}{
		{nil, x},
		{[]string{}, x},
		{[]string{"a"}, x.Fields[0].Type},
		{[]string{"a", "any"}, x.Fields[0].Type.Of[0]},
		{[]string{"a", ""}, x.Fields[0].Type.Of[0]},
		{[]string{"a", "0"}, x.Fields[0].Type.Of[0]},
		{[]string{"a", "\xff A"}, x.Fields[0].Type.Of[0]},
		{[]string{"a", strings.Repeat("k", api.MaxBytes)}, x.Fields[0].Type.Of[0]},
		{[]string{"a", "any", "n"}, number(3, 9)},
		{[]string{"a", "n", "o"}, yes()},
		{[]string{"b"}, x.Fields[1].Type},
		{[]string{"b", "0"}, list(2, 2, number(5, 5))},
		{[]string{"b", "0", "0"}, number(5, 5)},
		{[]string{"c"}, number(0, 1)},
	} {
		got, is := schema.At(x, c.path...)
		if !is {
			t.Errorf("%q: nothing", c.path)
		}
		wantType(t, strings.Join(c.path, "."), got, c.want)
	}
	for _, types := range []map[string]api.Type{right(), wrong()} {
		for what, x := range types {
			got, is := schema.At(x)
			if !is {
				t.Errorf("%s: nothing at no path", what)
			}
			wantType(t, what, got, x)
		}
	}
}

func TestP4_2AtNothing(t *testing.T) {
	for _, path := range [][]string{
		{""}, {"d"}, {"A"}, {"0"}, {"n"}, {"a", "any", "x"}, {"a", "any", "any"}, {"a", "any", "0"}, {"a", "any", "n", "n"}, {"a", "any", "n", "0"}, {"a", "any", "o", ""},
		{"b", "1"}, {"b", ""}, {"b", "00"}, {"b", "-0"}, {"b", "+0"}, {"b", " 0"}, {"b", "0 "}, {"b", "a"}, {"b", "0", "1"}, {"b", "0", "0", "0"}, {"c", "c"}, {"c", "0"}, {"c", ""}, {"d", "a"},
		slices.Repeat([]string{"a"}, 1<<16),
	} {
		got, is := schema.At(sample(), path...)
		if is {
			t.Errorf("%q: something", path)
		}
		wantZero(t, "beside a false", got)
	}
	for _, x := range []api.Type{number(0, 1), yes(), str(0, 1), enum("a", "0"), rec()} {
		for _, part := range []string{"a", "0", ""} {
			if got, is := schema.At(x, part); is {
				t.Errorf("%s at %q: %s", show(x), part, show(got))
			}
		}
	}
}

func TestP4_2AtOfWrongOnes(t *testing.T) {
	n := number(7, 7)
	for _, c := range []struct {
		what string
		t    api.Type
		path []string
		is   bool
	}{
		{"the first of alike ones", rec(field("a", n), field("a", yes())), []string{"a"}, true},
		{"a field of no name", rec(field("", n)), []string{""}, true},
		{"the first of two, of a dict", api.Type{Kind: api.TDict, Of: []api.Type{n, yes()}}, []string{"x"}, true},
		{"the first of two, of a list", api.Type{Kind: api.TList, Of: []api.Type{n, yes()}}, []string{"0"}, true},
		{"the second of two, of a list", api.Type{Kind: api.TList, Of: []api.Type{n, yes()}}, []string{"1"}, false},
		{"a dict of nothing", api.Type{Kind: api.TDict}, []string{"x"}, false},
		{"a list of nothing", api.Type{Kind: api.TList, Of: []api.Type{}}, []string{"0"}, false},
		{"a dict with a field", api.Type{Kind: api.TDict, Fields: []api.Field{field("a", n)}}, []string{"a"}, false},
		{"a list with a field", api.Type{Kind: api.TList, Fields: []api.Field{field("0", n)}}, []string{"0"}, false},
		{"a record of something", api.Type{Kind: api.TRec, Of: []api.Type{n}}, []string{"0"}, false},
		{"a number of something", api.Type{Kind: api.TInt, Of: []api.Type{n}}, []string{"0"}, false},
		{"of no kind, with all", api.Type{Fields: []api.Field{field("a", n)}, Of: []api.Type{n}}, []string{"a"}, false},
		{"of a kind above", api.Type{Kind: 8, Fields: []api.Field{field("0", n)}, Of: []api.Type{n}}, []string{"0"}, false},
		{"through what is not right", list(-1, -2, api.Type{Kind: api.TRec, Hi: 3, Fields: []api.Field{field("B", yes()), field("A", n)}}), []string{"0", "A"}, true},
		{"the end of a chain", list(1, 0, n), []string{"0"}, true},
	} {
		got, is := schema.At(c.t, c.path...)
		if is != c.is {
			t.Errorf("%s: %v", c.what, is)
		}
		if c.is {
			wantType(t, c.what, got, n)
		} else {
			wantZero(t, c.what, got)
		}
	}
	deep := slices.Repeat([]string{"0"}, 1<<16)
	if got, is := schema.At(chain(1<<16), deep[1:]...); !is || got.Kind != api.TBool {
		t.Error("the end of a chain")
	}
	if _, is := schema.At(chain(1<<16), deep...); is {
		t.Error("below the end of a chain")
	}
}

func TestP4_3Put(t *testing.T) {
	x, long := number(3, 9), strings.Repeat("m", api.MaxName)
	for _, c := range []struct {
		what string
		t    api.Type
		f    api.Field
		want api.Type
	}{
		{"a first field", rec(), field("a", x), rec(field("a", x))},
		{"a first field, optional", api.Type{Kind: api.TRec, Fields: []api.Field{}}, optional("a", x), rec(optional("a", x))},
		{"a field ahead", rec(field("b", yes()), optional("c", yes())), field("a", x), rec(field("a", x), field("b", yes()), optional("c", yes()))},
		{"a field between", rec(optional("a", yes()), field("c", yes())), optional("b", x), rec(optional("a", yes()), optional("b", x), field("c", yes()))},
		{"a field behind", rec(field("a", yes()), field("b", yes())), field("c", x), rec(field("a", yes()), field("b", yes()), field("c", x))},
		{"a field by its bytes", rec(field("a", yes()), field("ab", yes())), field("a_", x), rec(field("a", yes()), field("a_", x), field("ab", yes()))},
		{"a field of a long name", rec(field("mm", yes())), field(long, x), rec(field("mm", yes()), field(long, x))},
		{"the last field", wide(api.MaxFields-1, yes()), field("z", x), rec(append(wide(api.MaxFields-1, yes()).Fields, field("z", x))...)},
		{"a record", rec(field("a", rec())), field("b", sample()), rec(field("a", rec()), field("b", sample()))},
		{"a field of a name within", sample(), field("n", x), rec(append(sample().Fields, field("n", x))...)},
		{"what is as deep as may be", rec(), field("a", chain(api.MaxDepth-1)), rec(field("a", chain(api.MaxDepth-1)))},
		{"all parts but one", rec(whole().Fields[:3]...), field("d", wide(30, yes())), rec(append(whole().Fields[:3:3], field("d", wide(30, yes())))...)},
		{"all parts", rec(whole().Fields[:3]...), optional("d", wide(31, yes())), whole()},
	} {
		got, err := schema.Put(c.t, c.f)
		if err != api.OK {
			t.Errorf("%s: %v", c.what, err)
		}
		wantType(t, c.what, got, c.want)
	}
}

func wantNoPut(t *testing.T, what string, x api.Type, f api.Field, want api.Errno) {
	t.Helper()
	got, err := schema.Put(x, f)
	if err != want {
		t.Errorf("%s: %v, not %v", what, err, want)
	}
	wantZero(t, what, got)
}

func TestP4_3PutArg(t *testing.T) {
	for what, x := range wrong() {
		wantNoPut(t, "into "+what, x, field("q", yes()), api.ErrArg)
		wantNoPut(t, "of "+what, sample(), field("q", x), api.ErrArg)
		wantNoPut(t, "of "+what+", optional", sample(), optional("q", x), api.ErrArg)
	}
	for _, x := range []api.Type{dict(0, 1, rec()), list(0, 1, rec()), number(0, 1), yes(), str(0, 1), enum("a")} {
		wantNoPut(t, "into "+show(x), x, field("q", yes()), api.ErrArg)
	}
	for _, name := range []string{"", "A", "_", "1", "a-", "a b", "a ", "ä", strings.Repeat("m", api.MaxName+1), strings.Repeat("m", 1<<16)} {
		wantNoPut(t, "of the name "+short(name), sample(), field(name, yes()), api.ErrArg)
	}
	for what, x := range right() {
		if x.Kind == api.TRec {
			continue
		}
		if got, err := schema.Put(rec(), field("a", x)); (err == api.OK) != (what != "as deep as may be") {
			t.Errorf("%s: %s, %v", what, show(got), err)
		}
	}
}

func TestP4_3PutTwice(t *testing.T) {
	for _, name := range []string{"a", "b", "c"} {
		wantNoPut(t, name, sample(), field(name, yes()), api.ErrTwice)
		wantNoPut(t, name+", as it is", sample(), sample().Fields[schema.Field(sample(), name)], api.ErrTwice)
	}
}

func TestP4_3PutFull(t *testing.T) {
	wantNoPut(t, "a field too many", wide(api.MaxFields, yes()), field("z", yes()), api.ErrFull)
	wantNoPut(t, "a field too many, ahead", wide(api.MaxFields, yes()), optional("a", yes()), api.ErrFull)
	wantNoPut(t, "a part too many", whole(), field("z", yes()), api.ErrFull)
	wantNoPut(t, "a part too many below", rec(whole().Fields[:3]...), field("z", list(0, 1, wide(31, yes()))), api.ErrFull)
	wantNoPut(t, "far too many parts", whole(), field("z", whole()), api.ErrFull)
	wantNoPut(t, "too deep", rec(), field("a", chain(api.MaxDepth)), api.ErrFull)
	wantNoPut(t, "too deep beside", sample(), optional("d", rec(field("a", chain(api.MaxDepth-1)))), api.ErrFull)
}

// Of several errors the first is told.
func TestP4_3PutOfSeveralErrors(t *testing.T) {
	full := wide(api.MaxFields, yes())
	there := full.Fields[0].Name
	wantNoPut(t, "wrong, and there", rec(field("a", api.Type{})), field("a", yes()), api.ErrArg)
	wantNoPut(t, "of no name, and there", rec(field("A", yes())), field("A", yes()), api.ErrArg)
	wantNoPut(t, "of a wrong type, and there", sample(), field("a", api.Type{}), api.ErrArg)
	wantNoPut(t, "of a wrong type, and full", full, field("a", number(1, 0)), api.ErrArg)
	wantNoPut(t, "of no name, and full", full, field("A", yes()), api.ErrArg)
	wantNoPut(t, "there, and full", full, field(there, yes()), api.ErrTwice)
	wantNoPut(t, "there, and too deep", sample(), field("a", chain(api.MaxDepth)), api.ErrTwice)
}

func TestP4_3Drop(t *testing.T) {
	for _, c := range []struct {
		what string
		t    api.Type
		name string
		want api.Type
	}{
		{"the only field", rec(field("a", sample())), "a", rec()},
		{"the first field", sample(), "a", rec(sample().Fields[1:]...)},
		{"an optional field", sample(), "b", rec(sample().Fields[0], sample().Fields[2])},
		{"the last field", sample(), "c", rec(sample().Fields[:2]...)},
		{"the deepest", rec(field("a", yes()), field("b", chain(api.MaxDepth-1))), "b", rec(field("a", yes()))},
		{"of all", wide(api.MaxFields, yes()), wide(api.MaxFields, yes()).Fields[31].Name, wide(api.MaxFields-1, yes())},
		{"the greatest", whole(), "d", rec(whole().Fields[:3]...)},
	} {
		got, err := schema.Drop(c.t, c.name)
		if err != api.OK {
			t.Errorf("%s: %v", c.what, err)
		}
		wantType(t, c.what, got, c.want)
	}
}

func TestP4_3DropMiss(t *testing.T) {
	for _, x := range []api.Type{sample(), rec(), whole(), wide(api.MaxFields, yes())} {
		for _, name := range []string{"d0", "n", "o", "z", "aa", "", "A", "0", strings.Repeat("m", api.MaxName), strings.Repeat("m", api.MaxName+1)} {
			got, err := schema.Drop(x, name)
			if err != api.ErrMiss {
				t.Errorf("%q: %v", name, err)
			}
			wantZero(t, "beside an error", got)
		}
	}
}

func TestP4_3DropArg(t *testing.T) {
	types := wrong()
	for _, x := range []api.Type{dict(0, 1, rec(field("a", yes()))), list(0, 1, rec()), number(0, 1), yes(), str(0, 1), enum("a")} {
		types[show(x)] = x
	}
	for what, x := range types {
		for _, name := range []string{"a", "b", "zz", "", "A"} {
			got, err := schema.Drop(x, name)
			if err != api.ErrArg {
				t.Errorf("%q of %s: %v", name, what, err)
			}
			wantZero(t, what, got)
		}
	}
}
