package leaves_test

import (
	"math/rand/v2"
	"slices"
	"strconv"
	"strings"
	"testing"

	"cabochon/api"
	"cabochon/leaves"
)

// rec and dict lay keys and kids as they come, right or not.
func rec(keys []string, kids ...api.Doc) api.Doc {
	return api.Doc{Kind: api.DRec, Keys: keys, Kids: kids}
}

func dict(keys []string, kids ...api.Doc) api.Doc {
	return api.Doc{Kind: api.DDict, Keys: keys, Kids: kids}
}

func list(kids ...api.Doc) api.Doc { return api.Doc{Kind: api.DList, Kids: kids} }

func num(n int) api.Doc { return api.Doc{Kind: api.DInt, Num: n} }

func str(s string) api.Doc { return api.Doc{Kind: api.DBytes, Str: s} }

// keys is a row of keys, or a path.
func keys(l ...string) []string { return l }

func leaf(d api.Doc, path ...string) api.Leaf { return api.Leaf{Path: path, Doc: d} }

func row(l ...api.Leaf) []api.Leaf { return l }

// chain is records in a record and so on, of that depth.
func chain(depth int) api.Doc {
	d := rec(nil)
	for range depth - 1 {
		d = rec(keys("a"), d)
	}
	return d
}

// bushy is records of two fields within one another, of that depth, so that many paths are alike but for their ends.
func bushy(depth int) api.Doc {
	if depth == 1 {
		return rec(nil)
	}
	return rec(keys("a", "b"), bushy(depth-1), bushy(depth-1))
}

// chainOf is the leaves of a chain.
func chainOf(depth int) []api.Leaf {
	var l []api.Leaf
	for i := range depth {
		l = append(l, leaf(rec(nil), slices.Repeat(keys("a"), i)...))
	}
	return l
}

// wideOf is the leaves of a dictionary of that many parts, itself among them.
func wideOf(parts int) []api.Leaf {
	l := row(leaf(dict(nil)))
	for i := range parts - 1 {
		l = append(l, leaf(num(i), strconv.Itoa(i)))
	}
	return l
}

// show writes all of d, so that two documents are told apart by no call of the program; rows that are none and empty ones are written alike.
func show(d api.Doc) string {
	var b strings.Builder
	write(&b, d)
	return b.String()
}

func write(b *strings.Builder, d api.Doc) {
	b.WriteString("(" + strconv.Itoa(d.Kind) + " " + strconv.Itoa(d.Num) + " " + strconv.Quote(d.Str))
	for _, k := range d.Keys {
		b.WriteString(" " + strconv.Quote(k))
	}
	b.WriteString(":")
	for _, k := range d.Kids {
		write(b, k)
	}
	b.WriteString(")")
}

// showPath writes a path so that no other one is written so.
func showPath(path []string) string {
	s := "/"
	for _, part := range path {
		s += strconv.Quote(part) + "/"
	}
	return s
}

// showRow writes each leaf of l on a line.
func showRow(l []api.Leaf) string {
	var b strings.Builder
	for _, x := range l {
		b.WriteString(showPath(x.Path) + " " + show(x.Doc) + "\n")
	}
	return b.String()
}

// short is s, or its beginning, for what a test tells.
func short(s string) string {
	if len(s) > 400 {
		return s[:400] + " and so on, of " + strconv.Itoa(len(s)) + " bytes"
	}
	return s
}

func wantRow(t *testing.T, what string, got, want []api.Leaf) {
	t.Helper()
	if showRow(got) != showRow(want) {
		t.Errorf("%s: got\n%swant\n%s", what, short(showRow(got)), short(showRow(want)))
	}
}

func wantTree(t *testing.T, what string, l []api.Leaf, want api.Doc) {
	t.Helper()
	got, err := leaves.Tree(l)
	if err != api.OK || show(got) != show(want) {
		t.Errorf("%s: got %s, %v, want %s", what, short(show(got)), err, short(show(want)))
	}
}

func wantNoTree(t *testing.T, what string, l []api.Leaf, want api.Errno) {
	t.Helper()
	got, err := leaves.Tree(l)
	if err != want || show(got) != show(api.Doc{}) {
		t.Errorf("%s: got %s, %v, want none, %v", what, short(show(got)), err, want)
	}
}

// ahead is which of two paths comes first, told part by part: -1, 0, 1.
func ahead(a, b []string) int {
	for i := 0; ; i++ {
		switch {
		case i == len(a) && i == len(b):
			return 0
		case i == len(a):
			return -1
		case i == len(b):
			return 1
		case a[i] < b[i]:
			return -1
		case a[i] > b[i]:
			return 1
		}
	}
}

// sorted is l by rising paths, each leaf laid behind all that do not come behind it.
func sorted(l []api.Leaf) []api.Leaf {
	var m []api.Leaf
	for _, x := range l {
		i := len(m)
		for i > 0 && ahead(m[i-1].Path, x.Path) > 0 {
			i--
		}
		m = slices.Insert(m, i, x)
	}
	return m
}

// flat is the leaves of d, which stands at path, in no order that is asked for.
func flat(d api.Doc, path ...string) []api.Leaf {
	if d.Kind != api.DRec && d.Kind != api.DDict {
		return row(leaf(d, path...))
	}
	l := row(leaf(api.Doc{Kind: d.Kind, Num: d.Num, Str: d.Str}, path...))
	for i := 0; i < len(d.Keys) && i < len(d.Kids); i++ {
		l = append(l, flat(d.Kids[i], slices.Concat(path, d.Keys[i:i+1])...)...)
	}
	return l
}

// roomyPath is a path with spare room behind it, in which something stands that must stay.
func roomyPath(path []string) []string {
	return append(slices.Clone(path), "spare", "spare")[:len(path)]
}

// roomy is d with spare room behind all rows, in which something stands that must stay.
func roomy(d api.Doc) api.Doc {
	var ds []api.Doc
	for _, k := range d.Kids {
		ds = append(ds, roomy(k))
	}
	ds = append(ds, num(-77), num(-77))
	d.Keys, d.Kids = roomyPath(d.Keys), ds[:len(ds)-2]
	return d
}

// roomyRow is l with spare room likewise.
func roomyRow(l []api.Leaf) []api.Leaf {
	var m []api.Leaf
	for _, x := range l {
		m = append(m, leaf(roomy(x.Doc), roomyPath(x.Path)...))
	}
	return append(m, leaf(num(-77), "spare"), leaf(num(-77), "spare"))[:len(l)]
}

// showRoom is show, with the spare room.
func showRoom(d api.Doc) string {
	s := show(d) + strings.Join(d.Keys[:cap(d.Keys)], ",")
	for i, k := range d.Kids[:cap(d.Kids)] {
		if i < len(d.Kids) {
			s += showRoom(k)
		} else {
			s += show(k)
		}
	}
	return s
}

// showRowRoom is showRow, with the spare room.
func showRowRoom(l []api.Leaf) string {
	s := showRow(l[:cap(l)])
	for _, x := range l {
		s += showPath(x.Path[:cap(x.Path)]) + showRoom(x.Doc) + "\n"
	}
	return s
}

// rooms gathers all memory that rows lead to, spare room too.
type rooms struct {
	texts [][]string
	docs  [][]api.Doc
	rows  [][]api.Leaf
}

func (r *rooms) doc(d api.Doc) {
	for _, k := range d.Kids {
		r.doc(k)
	}
	r.texts = append(r.texts, d.Keys[:cap(d.Keys)])
	r.docs = append(r.docs, d.Kids[:cap(d.Kids)])
}

func (r *rooms) row(l []api.Leaf) {
	for _, x := range l {
		r.texts = append(r.texts, x.Path[:cap(x.Path)])
		r.doc(x.Doc)
	}
	r.rows = append(r.rows, l[:cap(l)])
}

// apart marks each piece of memory in turn, and is whether no other mark is lost by that.
func (r *rooms) apart() bool {
	for i, l := range r.texts {
		for j := range l {
			l[j] = strconv.Itoa(i)
		}
	}
	for i, l := range r.docs {
		for j := range l {
			l[j] = num(i)
		}
	}
	for i, l := range r.rows {
		for j := range l {
			l[j] = leaf(num(i))
		}
	}
	is := true
	for i, l := range r.texts {
		is = is && !slices.ContainsFunc(l, func(s string) bool { return s != strconv.Itoa(i) })
	}
	for i, l := range r.docs {
		is = is && !slices.ContainsFunc(l, func(d api.Doc) bool { return d.Num != i })
	}
	for i, l := range r.rows {
		is = is && !slices.ContainsFunc(l, func(x api.Leaf) bool { return x.Doc.Num != i })
	}
	return is
}

// random is a right document that is at most so deep, of few keys and numbers, so that alike ones come up.
func random(r *rand.Rand, depth int) api.Doc {
	kind := api.DRec + r.IntN(6)
	if depth == 1 {
		kind = api.DInt + r.IntN(3)
	}
	d := api.Doc{Kind: kind}
	switch kind {
	case api.DRec, api.DDict, api.DList:
		for _, k := range []string{"a", "b", "c"} {
			if r.IntN(3) == 0 {
				continue
			}
			if kind != api.DList {
				d.Keys = append(d.Keys, k)
			}
			d.Kids = append(d.Kids, random(r, depth-1))
		}
	case api.DBytes:
		d.Str = []string{"", "a", "b", "\xff"}[r.IntN(4)]
	case api.DInt:
		d.Num = r.IntN(3) - 1
	case api.DBool:
		d.Num = r.IntN(2)
	}
	return d
}

// randoms is the same right documents at each run.
func randoms(n int) []api.Doc {
	r := rand.New(rand.NewPCG(1, 2))
	var l []api.Doc
	for range n {
		l = append(l, random(r, 5))
	}
	return l
}

// randomPath is a short path of few parts.
func randomPath(r *rand.Rand) []string {
	var path []string
	for range r.IntN(4) {
		path = append(path, []string{"", "a", "ab", "b"}[r.IntN(4)])
	}
	return path
}

// randomRow is leaves of such paths, in no order, each of a number of its own, so that the order of alike ones shows.
func randomRow(r *rand.Rand, n int) []api.Leaf {
	var l []api.Leaf
	for i := range n {
		l = append(l, leaf(num(i), randomPath(r)...))
	}
	return l
}

func shuffled(r *rand.Rand, l []api.Leaf) []api.Leaf {
	m := slices.Clone(l)
	r.Shuffle(len(m), func(i, j int) { m[i], m[j] = m[j], m[i] })
	return m
}
