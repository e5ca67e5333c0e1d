package dag_test

import (
	"testing"

	"cabochon/api"
	"cabochon/dag"
)

func TestP14_1Right(t *testing.T) {
	for _, l := range [][][]int{
		nil, {}, {nil}, {{}}, {nil, nil}, {nil, {}, nil},
		row("none; 0"), row("none; none; 0 1"), row("none; 0; 0; 1 2; 1 2"), row("none; 0; 1; 0 2"), row("none; 0; 0; 0; 0"),
		make([][]int, 64), line(64), braid(64), ladder(64),
	} {
		if !dag.Right(l) {
			t.Errorf("not right: %s", show(l))
		}
	}
}

// wrong is rows that are not right, each by one thing alone.
func wrong() [][][]int {
	all := [][][]int{
		{{0}}, {{-1}}, {{1}}, {{api.MinInt}}, {{api.MaxInt}}, {{-1, 0}},
		row("none; 1"), row("none; 2"), row("none; -1"), row("none; -1 0"), row("none; 0 1"), row("none; 0 0"),
		row("none; none; 1 0"), row("none; none; 0 0"), row("none; none; 1 1"), row("none; none; 0 2"), row("none; none; 2"), row("none; none; 3"), row("none; none; -1 1"),
		row("none; 2; 0"), row("none; 0; 3; 2"), row("1; none"),
		row("none; 0; 0; 0 1 2"), row("none; none; none; 0 1 2"), row("none; none; none; none; 0 1 2 3"), row("none; none; none; 0 1 1"), row("none; none; none; 1 2 0"),
		make([][]int, 65), line(65), braid(65), make([][]int, 1<<16), line(1000),
	}
	for k := range 64 {
		for _, parents := range [][]int{{k}, {-1}, {k + 1}, {63, 64}, {api.MaxInt}, {0, 0}, {0, api.MinInt}, {0, 1, 2}} {
			l := braid(64)
			l[k] = parents
			all = append(all, l)
		}
	}
	return all
}

func TestP14_1WrongOnesAreRefused(t *testing.T) {
	for _, l := range wrong() {
		if saidRight(l) {
			t.Errorf("right after all: %s", show(l))
		}
		wantRefused(t, l)
	}
}

// All rows of few commits, whatever their parents.
func TestP14_1AllSmallOnes(t *testing.T) {
	right, not := 0, 0
	try := func(l [][]int) {
		if !saidRight(l) {
			wantRefused(t, l)
			not++
		} else {
			wantSaid(t, l)
			right++
		}
	}
	of := lists(3, 2)
	for _, a := range of {
		try([][]int{a})
		for _, b := range of {
			try([][]int{a, b})
		}
	}
	of = lists(2, 3)
	for _, a := range of {
		for _, b := range of {
			for _, c := range of {
				try([][]int{a, b, c})
			}
		}
	}
	for _, last := range lists(3, 4) {
		try(append(row("none; 0; 0; 1 2"), last))
	}
	if right < 1+2+8 || not < 30000 {
		t.Errorf("%d right ones, %d others", right, not)
	}
}

func TestP14_1AnyOne(t *testing.T) {
	r := chance(1, 2)
	right, not := 0, 0
	for _, l := range randoms(1, 4000) {
		if !dag.Right(l) || !saidRight(l) {
			t.Errorf("not right: %s", show(l))
		}
		l = changed(r, l)
		is := saidRight(l)
		if dag.Right(l) != is {
			t.Errorf("right should be %v: %s", is, show(l))
		}
		if is {
			right++
			continue
		}
		if not++; not%5 == 0 {
			wantRefused(t, l)
		}
	}
	if right < 500 || not < 1000 {
		t.Errorf("%d right ones, %d others", right, not)
	}
}
