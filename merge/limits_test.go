package merge_test

import (
	"slices"
	"strconv"
	"strings"
	"testing"

	"cabochon/api"
	"cabochon/merge"
)

// entries is a state of a dictionary of the entries from one number to another one, each of them x.
func entries(from, to int, x string) api.State {
	return api.State{Doc: rec("d", dict(from, to, val(x)))}
}

// piled is entries at the first schema of pile, with what the others need.
func piled(from, to int, d string) api.State {
	s := entries(from, to, "{}")
	for edge := range 2 {
		for i := from; i < to; i++ {
			s.Res = append(s.Res, left(edge, place(0, 0), d, key(i)))
		}
	}
	return s
}

func TestP12_1AsManyPartsAsMayBe(t *testing.T) {
	r := one("{d: dict (0 .. 512) of int (0 .. 9)}")
	base, left := entries(200, 210, "1"), entries(0, 210, "1")
	asked{r, 0, [3]api.State{base, left, entries(200, 510, "1")}, api.Outcome{Kind: api.Merged, State: entries(0, 510, "1")}}.three(t, "512 parts")
	asked{r, 0, [3]api.State{base, left, entries(201, 511, "1")}, api.Outcome{Kind: api.Merged, State: api.State{Doc: rec("d", without(dict(0, 511, val("1")), 200))}}}.three(t, "512 parts, one of them dropped")
	asked{r, 0, [3]api.State{base, left, entries(200, 511, "1")}, invalid}.three(t, "513 parts")
	asked{r, 0, [3]api.State{entries(0, 0, "1"), entries(0, 255, "1"), entries(255, 511, "1")}, invalid}.three(t, "513 parts, none of them base's")
	asked{r, 0, [3]api.State{entries(0, 0, "1"), entries(0, 510, "1"), entries(0, 511, "1")}, invalid}.three(t, "too many at one side")
}

// without is the dictionary d without the entry i.
func without(d api.Doc, i int) api.Doc {
	d.Keys, d.Kids = slices.Delete(d.Keys, i, i+1), slices.Delete(d.Kids, i, i+1)
	return d
}

func TestP12_1AsManyClashesAsMayBe(t *testing.T) {
	r := one("{d: dict (0 .. 512) of int (0 .. 9)}")
	s := [3]api.State{entries(0, 510, "1"), entries(0, 510, "2"), entries(0, 510, "3")}
	var all []api.Clash
	for i := range 510 {
		all = append(all, clash("d", key(i)))
	}
	asked{r, 0, s, conflicts(all...)}.three(t, "as many clashes")
	takes := slices.Repeat([]int{2}, 510)
	want(t, "taken", merge.Pick(r, 0, s[0], s[1], s[2], takes), api.Outcome{Kind: api.Merged, State: s[2]})
	takes[509] = 3
	want(t, "all taken but the last", merge.Pick(r, 0, s[0], s[1], s[2], takes), conflicts(all[509]))
	want(t, "all taken but the last two", merge.Pick(r, 0, s[0], s[1], s[2], takes[:508]), conflicts(all[508:]...))
}

func TestP12_1AsMuchLeftOutAsMayBe(t *testing.T) {
	base, left := piled(60, 70, "true"), piled(0, 70, "true")
	asked{pile(), 0, [3]api.State{base, left, piled(60, 128, "true")}, api.Outcome{Kind: api.Merged, State: piled(0, 128, "true")}}.three(t, "256 left out")
	asked{pile(), 0, [3]api.State{base, left, piled(60, 129, "true")}, invalid}.three(t, "258 left out, though no document is too much")
	asked{pile(), 0, [3]api.State{base, piled(0, 129, "true"), base}, invalid}.three(t, "258 left out at one side")

	l := many(3, 200, "1")
	asked{one("{}"), 0, [3]api.State{state("{}"), state("{}", l[:100]...), state("{}", l[100:]...)}, invalid}.three(t, "200 left out in vain")
	asked{one("{}"), 0, [3]api.State{state("{}", l...), state("{}", l[:100]...), state("{}", l[100:]...)}, merged("{}")}.three(t, "all of them dropped")

	var clashes []api.Clash
	for edge := range 2 {
		for i := range 128 {
			clashes = append(clashes, clashOut(edge, place(0, 0), key(i)))
		}
	}
	s := [3]api.State{piled(0, 0, "1"), piled(0, 128, "true"), piled(0, 128, "false")}
	asked{pile(), 0, s, conflicts(clashes...)}.three(t, "256 clashes")
	want(t, "taken", merge.Pick(pile(), 0, s[0], s[1], s[2], slices.Repeat([]int{2}, 256)), api.Outcome{Kind: api.Merged, State: s[2]})
	want(t, "none taken", merge.Pick(pile(), 0, s[0], s[1], s[2], slices.Repeat([]int{0}, 256)), invalid)
}

// Of 512 places that three states have together, no more than 256 hold.
func TestP12_1MoreLeftOutThanMayBeBetweenThem(t *testing.T) {
	l := many(3, 512, "1")
	base, left, right := state("{}", l[:256]...), state("{}", l[256:]...), state("{}")
	asked{one("{}"), 0, [3]api.State{base, left, base}, invalid}.three(t, "256 in vain")
	asked{one("{}"), 0, [3]api.State{base, left, right}, invalid}.three(t, "256 in vain, and 256 dropped")
	asked{one("{}"), 0, [3]api.State{base, right, right}, merged("{}")}.three(t, "dropped")
	for i := range l {
		l[i].Edge = 4
	}
	asked{one("{}"), 0, [3]api.State{right, left, base}, invalid}.three(t, "512")
}

func TestP12_1AsDeepAsMayBe(t *testing.T) {
	head, tail := strings.Repeat("dict (0 .. 2) of ", 10), "int (0 .. 9)"
	r := one("{d: " + head + tail + "}")
	deep := func(n ...int) api.State {
		s := "{d = "
		for range 9 {
			s += `<"k": `
		}
		s += "<"
		for i, x := range n {
			s += []string{"", ", "}[min(i, 1)] + `"` + strconv.Itoa(x) + `": ` + strconv.Itoa(x)
		}
		return state(s + strings.Repeat(">", 10) + "}")
	}
	asked{r, 0, [3]api.State{state("{d = <>}"), deep(1), deep(2)}, api.Outcome{Kind: api.Merged, State: deep(1, 2)}}.three(t, "12 deep")
	asked{r, 0, [3]api.State{deep(1, 2), deep(1), deep(2)}, api.Outcome{Kind: api.Merged, State: deep()}}.three(t, "dropped")
	one, two := deep(1), deep(1)
	last := func(s api.State) *api.Doc {
		d := &s.Doc
		for len(d.Kids) > 0 {
			d = &d.Kids[0]
		}
		return d
	}
	last(one).Num, last(two).Num = 7, 8
	path := append(append([]string{"d"}, slices.Repeat([]string{"k"}, 9)...), "1")
	asked{r, 0, [3]api.State{deep(1), one, two}, conflicts(clash(path...))}.three(t, "a clash")
	*last(one) = val("[1]")
	asked{r, 0, [3]api.State{deep(1), one, deep(1)}, invalid}.three(t, "13 deep")
}
