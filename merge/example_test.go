package merge_test

import (
	"fmt"

	"cabochon/api"
	"cabochon/decl"
	"cabochon/graph"
	"cabochon/lenstext"
	"cabochon/merge"
	"cabochon/text"
	"cabochon/trans"
)

// The example of README.md.
func Example() {
	one, _, _ := decl.Parse("{port: int (0 .. 9)}")
	two, _, _ := decl.Parse("{port: int (0 .. 9), tls: bool}")
	add, _, _ := lenstext.Parse("add tls: bool = false;")
	r, _ := graph.AddSchema(api.Registry{}, "one", one)
	r, _ = graph.AddSchema(r, "two", two)
	r, _ = graph.AddJoin(r, "one", "two", add)
	whole := func(k int, s string) api.State {
		d, _, _ := text.Parse(s)
		made, _ := trans.Start(r, k, d)
		return made
	}

	base, left, right := whole(0, "{port = 5}"), whole(0, "{port = 6}"), whole(1, "{port = 5, tls = true}")
	o, err := merge.Across(r, 1, [3]int{0, 0, 1}, [3]api.State{base, left, right})
	fmt.Println(o.Kind == api.Merged, text.Print(o.State.Doc), err == api.OK)
	o, err = merge.Across(r, 0, [3]int{0, 0, 1}, [3]api.State{base, left, right})
	fmt.Println(o.Kind == api.Merged, text.Print(o.State.Doc), text.Print(o.State.Res[0].Doc), err == api.OK)

	other := whole(0, "{port = 7}")
	o = merge.Three(r, 0, base, left, other)
	fmt.Println(o.Kind == api.Conflicts, o.Clashes[0].Path)
	o = merge.Pick(r, 0, base, left, other, []int{2})
	fmt.Println(o.Kind == api.Merged, text.Print(o.State.Doc), merge.Same(o, merge.Three(r, 0, base, base, other)))
	o = merge.Three(r, 1, base, left, base)
	fmt.Println(o.Kind == api.Invalid)
	_, err = merge.Across(r, 1, [3]int{0, 0, 2}, [3]api.State{base, left, right})
	fmt.Println(err == api.ErrNone)
	// Output:
	// true {port = 6, tls = true} true
	// true {port = 6} true true
	// true [port]
	// true {port = 7} true
	// true
	// true
}
