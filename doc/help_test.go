package doc_test

import (
	"math/rand/v2"
	"slices"
	"strconv"
	"strings"
	"testing"

	"cabochon/api"
)

// rec and dict lay keys and kids as they come, right or not.
func rec(keys []string, kids ...api.Doc) api.Doc {
	return api.Doc{Kind: api.DRec, Keys: keys, Kids: kids}
}

func dict(keys []string, kids ...api.Doc) api.Doc {
	return api.Doc{Kind: api.DDict, Keys: keys, Kids: kids}
}

func list(kids ...api.Doc) api.Doc { return api.Doc{Kind: api.DList, Kids: kids} }

func num(n int) api.Doc { return api.Doc{Kind: api.DInt, Num: n} }

func str(s string) api.Doc { return api.Doc{Kind: api.DBytes, Str: s} }

func keys(l ...string) []string { return l }

// chain is a list in a list and so on, of that depth.
func chain(depth int) api.Doc {
	d := list()
	for range depth - 1 {
		d = list(d)
	}
	return d
}

// wide is a list of that many parts, itself among them.
func wide(parts int) api.Doc {
	d := list()
	for i := range parts - 1 {
		d.Kids = append(d.Kids, num(i))
	}
	return d
}

// show writes all of d, so that two documents are told apart by no call of the package; rows that are none and empty ones are written alike.
func show(d api.Doc) string {
	var b strings.Builder
	write(&b, d)
	return b.String()
}

func write(b *strings.Builder, d api.Doc) {
	b.WriteString("(" + strconv.Itoa(d.Kind) + " " + strconv.Itoa(d.Num) + " " + strconv.Quote(d.Str))
	for _, k := range d.Keys {
		b.WriteString(" " + strconv.Quote(k))
	}
	b.WriteString(":")
	for _, k := range d.Kids {
		write(b, k)
	}
	b.WriteString(")")
}

func wantDoc(t *testing.T, what string, got, want api.Doc) {
	t.Helper()
	if show(got) != show(want) {
		t.Errorf("%s: got %s, want %s", what, show(got), show(want))
	}
}

func wantZero(t *testing.T, what string, got api.Doc) {
	t.Helper()
	wantDoc(t, what, got, api.Doc{})
}

// roomy is d with spare room behind all rows, in which something stands that must stay.
func roomy(d api.Doc) api.Doc {
	ks := append(slices.Clone(d.Keys), "spare", "spare")
	var ds []api.Doc
	for _, k := range d.Kids {
		ds = append(ds, roomy(k))
	}
	ds = append(ds, num(-77), num(-77))
	d.Keys, d.Kids = ks[:len(ks)-2], ds[:len(ds)-2]
	return d
}

// showRoom is show, with the spare room.
func showRoom(d api.Doc) string {
	s := show(d) + strings.Join(d.Keys[:cap(d.Keys)], ",")
	for i, k := range d.Kids[:cap(d.Kids)] {
		if i < len(d.Kids) {
			s += showRoom(k)
		} else {
			s += show(k)
		}
	}
	return s
}

// scribble overwrites all memory that d leads to, spare room too.
func scribble(d api.Doc) {
	for _, k := range d.Kids {
		scribble(k)
	}
	for i := range d.Keys[:cap(d.Keys)] {
		d.Keys[:cap(d.Keys)][i] = "scribbled"
	}
	for i := range d.Kids[:cap(d.Kids)] {
		d.Kids[:cap(d.Kids)][i] = num(-99)
	}
}

// apart is whether no two rows within d share memory: each is marked in turn, spare room too, and no other mark may be lost.
func apart(d api.Doc) bool {
	var rows [][]string
	var kids [][]api.Doc
	var walk func(d api.Doc)
	walk = func(d api.Doc) {
		if cap(d.Keys) > 0 {
			rows = append(rows, d.Keys[:cap(d.Keys)])
		}
		if cap(d.Kids) > 0 {
			kids = append(kids, d.Kids[:cap(d.Kids)])
		}
		for _, k := range d.Kids {
			walk(k)
		}
	}
	walk(d)
	for i, l := range rows {
		for j := range l {
			l[j] = strconv.Itoa(i)
		}
	}
	for i, l := range kids {
		for j := range l {
			l[j] = num(i)
		}
	}
	for i, l := range rows {
		for _, s := range l {
			if s != strconv.Itoa(i) {
				return false
			}
		}
	}
	for i, l := range kids {
		for _, k := range l {
			if k.Num != i {
				return false
			}
		}
	}
	return true
}

// random is a right document that is at most so deep, of few keys and numbers, so that alike ones come up.
func random(r *rand.Rand, depth int) api.Doc {
	kind := api.DRec + r.IntN(6)
	if depth == 1 {
		kind = api.DInt + r.IntN(3)
	}
	d := api.Doc{Kind: kind}
	switch kind {
	case api.DRec, api.DDict, api.DList:
		for _, k := range []string{"a", "b", "c"} {
			if r.IntN(3) == 0 {
				continue
			}
			if kind != api.DList {
				d.Keys = append(d.Keys, k)
			}
			d.Kids = append(d.Kids, random(r, depth-1))
		}
	case api.DBytes:
		d.Str = []string{"", "a", "b", "\xff"}[r.IntN(4)]
	case api.DInt:
		d.Num = r.IntN(3) - 1
	case api.DBool:
		d.Num = r.IntN(2)
	}
	return d
}

// randoms is the same documents at each run.
func randoms(n int) []api.Doc {
	r := rand.New(rand.NewPCG(1, 2))
	var l []api.Doc
	for range n {
		l = append(l, random(r, 5))
	}
	return l
}

// randomPath leads through d as far as it goes, mostly, and then on by a part that may be there or not.
func randomPath(r *rand.Rand, d api.Doc) []string {
	var path []string
	for len(d.Kids) > 0 && r.IntN(4) > 0 {
		i := r.IntN(len(d.Kids))
		part := strconv.Itoa(i)
		if d.Kind != api.DList {
			part = d.Keys[i]
		}
		path, d = append(path, part), d.Kids[i]
	}
	if r.IntN(2) == 0 {
		path = append(path, []string{"a", "b", "c", "0", "1", "2", "3", "A", ""}[r.IntN(9)])
	}
	return path
}
