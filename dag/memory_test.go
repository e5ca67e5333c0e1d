package dag_test

import (
	"reflect"
	"slices"
	"testing"

	"cabochon/dag"
)

// roomy is l with spare room behind all rows, in which something stands that must stay.
func roomy(l [][]int) [][]int {
	whole := make([][]int, len(l), len(l)+2)
	for k, parents := range l {
		whole[k] = append(append(make([]int, 0, len(parents)+2), parents...), 77, 78)[:len(parents)]
	}
	return append(whole, []int{79}, []int{80})[:len(l)]
}

// showRoom writes l with the spare room behind each row.
func showRoom(l [][]int) string {
	var all [][]int
	for _, parents := range l[:cap(l)] {
		all = append(all, parents[:cap(parents)])
	}
	return show(all)
}

// answers is all lists that the calls tell of l.
func answers(l [][]int) [][]int {
	n := len(l)
	all := [][]int{dag.Heads(l)}
	for _, a := range []int{-1, 0, n / 3, n / 2, n - 2, n - 1, n} {
		all = append(all, dag.Behind(l, a), []int{dag.Depth(l, a)})
		for _, b := range []int{-1, 0, 1, n / 2, n - 2, n - 1} {
			all = append(all, dag.Common(l, a, b), dag.Bases(l, a, b), dag.New(l, a, b), []int{dag.Base(l, a, b)})
			if dag.Is(l, a, b) && dag.Right(l) {
				all = append(all, []int{a, b})
			}
		}
	}
	return all
}

// held is rows, of some of which the parents are one and the same memory.
func held() [][][]int {
	one := []int{0, 1}
	shared := [][]int{nil, nil, one, one, one, one[:1], one[1:]}
	return append(randoms(7, 60), shared, some(), line(64), braid(64), ladder(64), make([][]int, 64), nil)
}

func TestP14_4NothingIsChanged(t *testing.T) {
	for _, l := range append(held(), wrong()...) {
		l = roomy(l)
		before := showRoom(l)
		answers(l)
		if got := showRoom(l); got != before {
			t.Errorf("changed to %s, of %s", got, before)
		}
	}
}

// room is memory, from one address to another one.
type room struct{ from, to uintptr }

// roomOf is that of l, spare room too.
func roomOf(l []int) room {
	from := reflect.ValueOf(l).Pointer()
	return room{from, from + 8*uintptr(cap(l))}
}

func TestP14_4AnswersAreNewMemory(t *testing.T) {
	for _, l := range held() {
		l = roomy(l)
		var taken []room
		for _, parents := range l[:cap(l)] {
			taken = append(taken, roomOf(parents))
		}
		own := append(answers(l), answers(l)...)
		for _, x := range own {
			if cap(x) == 0 {
				continue
			}
			its := roomOf(x)
			if slices.ContainsFunc(taken, func(other room) bool { return its.from < other.to && other.from < its.to }) {
				t.Errorf("of %s: %s", show(l), showList(x))
			}
			taken = append(taken, its)
		}
	}
}

// What is handed in, and what is answered, is written over: what else was answered stays, and is answered again.
func TestP14_4NothingIsKept(t *testing.T) {
	for _, l := range held() {
		mine := roomy(l)
		first, given := answers(mine), answers(mine)
		before := show(given)
		for _, x := range append(first, mine...) {
			x = x[:cap(x)]
			for i := range x {
				x[i] = -9
			}
		}
		clear(mine)
		if show(given) != before {
			t.Errorf("%s, and not %s", show(given), before)
		}
		if got := show(answers(l)); got != before {
			t.Errorf("asked again: %s, and not %s", got, before)
		}
	}
}
