package lens_test

import (
	"fmt"

	"cabochon/api"
	"cabochon/decl"
	"cabochon/doc"
	"cabochon/lens"
	"cabochon/schema"
)

// The example of README.md.
func Example() {
	t, _, _ := decl.Parse("{port: int (0 .. 9), tls: {key: bytes (0 .. 64), on: bool}}")
	l := []api.Lens{
		{Kind: api.LRename, A: "port", B: "ports"},
		{Kind: api.LWrap, A: "ports"},
		{Kind: api.LHoist, A: "tls", B: "on"},
		{Kind: api.LIn, A: "tls", Subs: []api.Lens{{Kind: api.LAdd, A: "old", Type: api.Type{Kind: api.TBool}, Doc: doc.Bool(false)}}},
	}
	u, at, err := lens.Target(t, l)
	fmt.Println(at, err == api.OK)
	fmt.Println(decl.Print(u))
	v, _, _ := lens.Target(u, lens.Back(l))
	fmt.Println(schema.Same(v, t))
	_, at, err = lens.Target(t, l[1:])
	fmt.Println(at, err == api.ErrMiss)
	fmt.Println(lens.Size(l), lens.Depth(l), lens.Lossless(l))
	fmt.Println(lens.Swap(80, [][2]int{{80, 443}}))
	// Output:
	// 4 true
	// {on: bool, ports: list (1 .. 1) of int (0 .. 9), tls: {key: bytes (0 .. 64), old: bool}}
	// true
	// 0 true
	// 5 2 false
	// 443
}
