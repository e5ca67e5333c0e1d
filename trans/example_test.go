package trans_test

import (
	"fmt"

	"cabochon/api"
	"cabochon/decl"
	"cabochon/graph"
	"cabochon/lenstext"
	"cabochon/text"
	"cabochon/trans"
)

// The example of README.md.
func Example() {
	one, _, _ := decl.Parse("{port: int (0 .. 9)}")
	two, _, _ := decl.Parse("{port: int (0 .. 9), tls: bool}")
	add, _, _ := lenstext.Parse("add tls: bool = false;")
	r, _ := graph.AddSchema(api.Registry{}, "one", one)
	r, _ = graph.AddSchema(r, "two", two)
	r, _ = graph.AddJoin(r, "one", "two", add)

	d, _, _ := text.Parse("{port = 5}")
	s, err := trans.Start(r, 0, d)
	fmt.Println(len(s.Res), err == api.OK)
	d, err = trans.Seen(r, 0, 1, s)
	fmt.Println(text.Print(d), err == api.OK)

	d, _, _ = text.Parse("{port = 5, tls = true}")
	s, err = trans.Edit(r, 0, 1, s, d)
	fmt.Println(text.Print(s.Doc), text.Print(s.Res[0].Doc), err == api.OK)
	d, _, _ = text.Parse("{port = 6}")
	s, err = trans.Edit(r, 0, 0, s, d)
	fmt.Println(err == api.OK)
	there, err := trans.Go(r, 0, 1, s)
	fmt.Println(text.Print(there.Doc), len(there.Res), err == api.OK)

	fmt.Println(trans.Whole(r, 0, s), trans.Whole(r, 0, api.State{Doc: d}))
	s, err = trans.Fill(r, 0, api.State{Doc: d})
	fmt.Println(trans.Whole(r, 0, s), err == api.OK)
	_, err = trans.Edit(r, 0, 1, s, d)
	fmt.Println(err == api.ErrType)
	// Output:
	// 1 true
	// {port = 5, tls = false} true
	// {port = 5} true true
	// true
	// {port = 6, tls = true} 0 true
	// true false
	// true true
	// true
}
