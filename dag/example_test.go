package dag_test

import (
	"fmt"

	"cabochon/dag"
)

// The example of README.md.
func Example() {
	l := [][]int{nil, {0}, {0}, {1, 2}, {1, 2}}
	fmt.Println(dag.Right(l))
	fmt.Println(dag.Behind(l, 3))
	fmt.Println(dag.Is(l, 0, 4))
	fmt.Println(dag.Common(l, 3, 4))
	fmt.Println(dag.Bases(l, 3, 4))
	fmt.Println(dag.Base(l, 3, 4))
	fmt.Println(dag.Base(l, 1, 2))
	fmt.Println(dag.Heads(l))
	fmt.Println(dag.New(l, 1, 3))
	fmt.Println(dag.Depth(l, 4))
	fmt.Println(dag.Depth(l, 5))
	fmt.Println(dag.Right([][]int{{0}}))
	// Output:
	// true
	// [0 1 2 3]
	// true
	// [0 1 2]
	// [1 2]
	// 2
	// 0
	// [3 4]
	// [2 3]
	// 3
	// 0
	// false
}
