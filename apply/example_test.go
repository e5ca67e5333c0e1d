package apply_test

import (
	"fmt"

	"cabochon/api"
	"cabochon/apply"
	"cabochon/decl"
	"cabochon/doc"
	"cabochon/lens"
	"cabochon/text"
)

// The example of README.md.
func Example() {
	t, _, _ := decl.Parse("{hosts: dict (0 .. 4) of {old: bool, port: int (0 .. 99)}}")
	l := []api.Lens{
		{Kind: api.LAdd, A: "tls", Type: api.Type{Kind: api.TBool}, Doc: doc.Bool(false)},
		{Kind: api.LMap, A: "hosts", Subs: []api.Lens{{Kind: api.LRemove, A: "old", Type: api.Type{Kind: api.TBool}, Doc: doc.Bool(false)}}},
	}
	u, _, _ := lens.Target(t, l)
	d, _, _ := text.Parse("{hosts = <\"a\": {old = true, port = 80}>}")
	s, err := apply.Go(t, l, 7, false, api.State{Doc: d})
	fmt.Println(text.Print(s.Doc), err == api.OK)
	x := s.Res[0]
	fmt.Println(x.Edge, x.Step, x.At, text.Print(x.Doc))
	s, err = apply.Go(u, l, 7, true, s)
	fmt.Println(text.Print(s.Doc), err == api.OK)
	fmt.Println(len(s.Res), s.Res[0].Step, text.Print(s.Res[0].Doc))
	for _, x := range apply.Needs(t, l, 7, false, d) {
		fmt.Println(x.Edge, x.Step, x.At, text.Print(x.Doc))
	}
	r := apply.Put(s.Res, api.Res{Edge: 7, Step: []int{0}, Doc: doc.Bool(true)})
	s, _ = apply.Go(t, l, 7, false, api.State{Doc: d, Res: r})
	fmt.Println(text.Print(s.Doc))
	fmt.Println(apply.Find(r, 7, []int{0}, nil), len(apply.Drop(r, 7, []int{0}, nil)))
	_, err = apply.Go(u, l, 7, true, api.State{Doc: d})
	fmt.Println(err == api.ErrType)
	// Output:
	// {hosts = <"a": {port = 80}>, tls = false} true
	// 7 [1 0] [a] true
	// {hosts = <"a": {old = true, port = 80}>} true
	// 1 [0] false
	// 7 [0] [] false
	// {hosts = <"a": {port = 80}>, tls = true}
	// 0 0
	// true
}
