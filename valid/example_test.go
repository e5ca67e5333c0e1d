package valid_test

import (
	"fmt"

	"cabochon/api"
	"cabochon/text"
	"cabochon/valid"
)

// The example of README.md.
func Example() {
	t := api.Type{Kind: api.TRec, Fields: []api.Field{
		{Name: "hosts", Optional: true, Type: api.Type{Kind: api.TList, Hi: 4, Of: []api.Type{{Kind: api.TBytes, Lo: 1, Hi: 64}}}},
		{Name: "port", Type: api.Type{Kind: api.TInt, Lo: 3, Hi: 9}},
	}}
	d, _, _ := text.Parse("{hosts = [\"b\", \"\"], tls = true}")
	fmt.Println(valid.Is(t, d), valid.Fits(t, d) == api.OK)
	for _, f := range valid.All(t, d) {
		fmt.Println(f.Path, f.Err)
	}
	fmt.Println(valid.Check(t, d).Path)
	m, n := valid.Mend(t, d)
	fmt.Println(text.Print(m), n, valid.Is(t, m))
	// Output:
	// false true
	// [hosts 1] error 8
	// [port] error 9
	// [tls] error 10
	// [hosts 1]
	// {hosts = ["b", "a"], port = 3} 3 true
}
