package valid_test

import (
	"math/rand/v2"
	"slices"
	"strconv"
	"strings"
	"testing"

	"cabochon/api"
	"cabochon/schema"
	"cabochon/valid"
)

// counts is whether d has few enough parts to be a right document.
func counts(d api.Doc) bool { return strings.Count(show(d), "(") <= api.MaxParts }

func TestP5_5LeastIsOfItsType(t *testing.T) {
	r := rand.New(rand.NewPCG(7, 8))
	for range 3000 {
		x := randomType(r, 4)
		if d := schema.Least(x); counts(d) && !valid.Is(x, d) {
			t.Errorf("%s: %s, %s", showType(x), show(d), showFaults(valid.All(x, d)))
		}
	}
	for what, p := range kinds() {
		if !valid.Is(p.t, schema.Least(p.t)) {
			t.Errorf("%s: %s", what, show(schema.Least(p.t)))
		}
	}
	for lo := range 12 {
		for _, x := range []api.Type{dict(lo, 12, yes()), list(lo, lo, number(3, 9)), rec(field("a", list(lo, 20, enum("x"))))} {
			if is := valid.Is(x, schema.Least(x)); is != (lo <= 8) {
				t.Errorf("of %d: %v", lo, is)
			}
		}
	}
}

func TestP5_5WhatIsOfATypeIsLeft(t *testing.T) {
	often := 0
	for _, p := range slices.Concat(pairs(1500, 60), pairs(1500, 1000)) {
		got, n := valid.Mend(p.t, p.d)
		is := valid.Is(p.t, p.d)
		if is != (n == 0) || is && show(got) != show(p.d) {
			t.Errorf("%s: %s is %s, by %d changes", showType(p.t), show(p.d), show(got), n)
		}
		if is {
			often++
		}
	}
	if often < 1000 {
		t.Errorf("%d alone were of their type", often)
	}
}

func TestP5_5WhatWasMendedIsOfTheType(t *testing.T) {
	for _, p := range anyPairs() {
		got, _ := valid.Mend(p.t, p.d)
		if !counts(got) {
			continue
		}
		if !valid.Is(p.t, got) {
			t.Errorf("%s: %s is mended to %s", showType(p.t), show(p.d), show(got))
		}
		wantMend(t, "mended again", p.t, got, got, 0)
	}
}

// No call panics, whatever it is given, and what they tell of the same holds together.
func TestW1AnyTypesAndDocuments(t *testing.T) {
	types, docs := []api.Type{}, []api.Doc{}
	for _, p := range kinds() {
		types, docs = append(types, p.t), append(docs, p.d)
	}
	for _, x := range wrongTypes() {
		types = append(types, x)
	}
	for _, d := range wrongDocs() {
		docs = append(docs, d)
	}
	for i, x := range types {
		for k, d := range docs {
			what := strconv.Itoa(i) + ", " + strconv.Itoa(k)
			all, first := valid.All(x, d), valid.Check(x, d)
			if valid.Is(x, d) != (len(all) == 0) || valid.Is(x, d) != (first.Err == api.OK) {
				t.Errorf("%s: %s, and %s", what, short(showFaults(all)), showFault(first))
			}
			if len(all) > 0 {
				wantFault(t, what, first, all[0])
			}
			err := valid.Fits(x, d)
			if err != api.OK {
				wantFault(t, what, first, fault(err))
			}
			_, n := valid.Mend(x, d)
			if wrong := err == api.ErrArg; wrong && n != 0 || !wrong && (n == 0) != (len(all) == 0) {
				t.Errorf("%s: %d changes", what, n)
			}
		}
	}
}
