package text_test

import (
	"math/rand/v2"
	"slices"
	"strconv"
	"strings"
	"testing"

	"cabochon/api"
)

// rec and dict lay keys and kids as they come, right or not.
func rec(keys []string, kids ...api.Doc) api.Doc {
	return api.Doc{Kind: api.DRec, Keys: keys, Kids: kids}
}

func dict(keys []string, kids ...api.Doc) api.Doc {
	return api.Doc{Kind: api.DDict, Keys: keys, Kids: kids}
}

func list(kids ...api.Doc) api.Doc { return api.Doc{Kind: api.DList, Kids: kids} }

func num(n int) api.Doc { return api.Doc{Kind: api.DInt, Num: n} }

func str(s string) api.Doc { return api.Doc{Kind: api.DBytes, Str: s} }

func yes() api.Doc { return api.Doc{Kind: api.DBool, Num: 1} }

func no() api.Doc { return api.Doc{Kind: api.DBool} }

func keys(l ...string) []string { return l }

// show writes all of d, so that two documents are told apart by no call of the program; rows that are none and empty ones are written alike.
func show(d api.Doc) string {
	var b strings.Builder
	write(&b, d)
	return b.String()
}

func write(b *strings.Builder, d api.Doc) {
	b.WriteString("(" + strconv.Itoa(d.Kind) + " " + strconv.Itoa(d.Num) + " " + strconv.Quote(d.Str))
	for _, k := range d.Keys {
		b.WriteString(" " + strconv.Quote(k))
	}
	b.WriteString(":")
	for _, k := range d.Kids {
		write(b, k)
	}
	b.WriteString(")")
}

// short is s, or its beginning, for what a test tells.
func short(s string) string {
	if len(s) > 80 {
		return strconv.Quote(s[:80]) + " and so on, of " + strconv.Itoa(len(s)) + " bytes"
	}
	return strconv.Quote(s)
}

func wantDoc(t *testing.T, what string, got, want api.Doc) {
	t.Helper()
	if show(got) != show(want) {
		t.Errorf("%s: got %s, want %s", what, short(show(got)), short(show(want)))
	}
}

// roomy is d with spare room behind all rows, in which something stands that must stay.
func roomy(d api.Doc) api.Doc {
	ks := append(slices.Clone(d.Keys), "spare", "spare")
	var ds []api.Doc
	for _, k := range d.Kids {
		ds = append(ds, roomy(k))
	}
	ds = append(ds, num(-77), num(-77))
	d.Keys, d.Kids = ks[:len(ks)-2], ds[:len(ds)-2]
	return d
}

// showRoom is show, with the spare room.
func showRoom(d api.Doc) string {
	s := show(d) + strings.Join(d.Keys[:cap(d.Keys)], ",")
	for i, k := range d.Kids[:cap(d.Kids)] {
		if i < len(d.Kids) {
			s += showRoom(k)
		} else {
			s += show(k)
		}
	}
	return s
}

// scribble overwrites all memory that d leads to, spare room too.
func scribble(d api.Doc) {
	for _, k := range d.Kids {
		scribble(k)
	}
	for i := range d.Keys[:cap(d.Keys)] {
		d.Keys[:cap(d.Keys)][i] = "scribbled"
	}
	for i := range d.Kids[:cap(d.Kids)] {
		d.Kids[:cap(d.Kids)][i] = num(-99)
	}
}

// apart is whether no two rows within d share memory: each is marked in turn, spare room too, and no other mark may be lost.
func apart(d api.Doc) bool {
	var rows [][]string
	var kids [][]api.Doc
	var walk func(d api.Doc)
	walk = func(d api.Doc) {
		rows = append(rows, d.Keys[:cap(d.Keys)])
		kids = append(kids, d.Kids[:cap(d.Kids)])
		for _, k := range d.Kids {
			walk(k)
		}
	}
	walk(d)
	for i := range rows {
		for j := range rows[i] {
			rows[i][j] = strconv.Itoa(i)
		}
		for j := range kids[i] {
			kids[i][j] = num(i)
		}
	}
	for i := range rows {
		for _, s := range rows[i] {
			if s != strconv.Itoa(i) {
				return false
			}
		}
		for _, k := range kids[i] {
			if k.Num != i {
				return false
			}
		}
	}
	return true
}

// pieces are byte strings of all sorts; names are fields of all sorts. Both rise.
var (
	pieces = []string{"", "\x00", "\t", " ", "\"", "0", "\\", "\\x41", "a", "b\xff", "z\"\\z", "\x7f", "\x80", "\xff"}
	names  = []string{"a", "a0", "a_", "b", "false", "true", "x", "z9_abcdefghijkl_"}
	odd    = []int{0, 1, -1, 9, 10, -10, 4096, api.MaxInt, api.MinInt, api.MaxInt - 1, api.MinInt + 1}
)

// random is a right document that is at most so deep.
func random(r *rand.Rand, depth int) api.Doc {
	kind := api.DRec + r.IntN(6)
	if depth == 1 {
		kind = api.DInt + r.IntN(3)
	}
	d := api.Doc{Kind: kind}
	switch kind {
	case api.DRec:
		d.Keys = some(r, names)
	case api.DDict:
		d.Keys = some(r, pieces)
	case api.DList:
		for range r.IntN(4) {
			d.Kids = append(d.Kids, random(r, depth-1))
		}
	case api.DBytes:
		d.Str = strings.Join(some(r, pieces), "")
	case api.DInt:
		d.Num = odd[r.IntN(len(odd))]
	case api.DBool:
		d.Num = r.IntN(2)
	}
	for range d.Keys {
		d.Kids = append(d.Kids, random(r, depth-1))
	}
	return d
}

// some is a few of all, in their order.
func some(r *rand.Rand, all []string) []string {
	var l []string
	for _, s := range all {
		if r.IntN(len(all)) < 2 {
			l = append(l, s)
		}
	}
	return l
}

// randoms is the same documents at each run.
func randoms(n int) []api.Doc {
	r := rand.New(rand.NewPCG(1, 2))
	var l []api.Doc
	for range n {
		l = append(l, random(r, 5))
	}
	return l
}
