package graph_test

import (
	"fmt"

	"cabochon/api"
	"cabochon/decl"
	"cabochon/graph"
	"cabochon/lenstext"
)

// The example of README.md.
func Example() {
	one, _, _ := decl.Parse("{port: int (0 .. 9)}")
	two, _, _ := decl.Parse("{port: int (0 .. 9), tls: bool}")
	add, _, _ := lenstext.Parse("add tls: bool = false;")

	r, _ := graph.AddSchema(api.Registry{}, "one", one)
	r, _ = graph.AddSchema(r, "two", two)
	r, _ = graph.AddSchema(r, "three", two)
	r, err := graph.AddJoin(r, "one", "two", add)
	fmt.Println(err == api.OK)
	r, err = graph.AddJoin(r, "three", "two", nil)
	fmt.Println(err == api.OK)
	fmt.Println(graph.Find(r, "two"))
	l, err := graph.Path(r, 0, 2)
	fmt.Println(l, err == api.OK)
	fmt.Println(graph.Around(r, 1))
	fmt.Println(graph.Component(r, 2))
	_, err = graph.AddJoin(r, "one", "three", add)
	fmt.Println(err == api.ErrCycle)

	other, _ := graph.AddSchema(api.Registry{}, "four", one)
	u, err := graph.Union(r, other)
	fmt.Println(len(u.Schemas), len(u.Joins), err == api.OK)
	_, err = graph.Path(u, 0, 3)
	fmt.Println(err == api.ErrNoPath)
	// Output:
	// true
	// true
	// 1
	// [{0 false} {1 true}] true
	// [{0 true} {1 true}]
	// [0 1 2]
	// true
	// 4 2 true
	// true
}
