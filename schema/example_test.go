package schema_test

import (
	"fmt"

	"cabochon/api"
	"cabochon/schema"
	"cabochon/text"
)

// The example of README.md.
func Example() {
	t := api.Type{Kind: api.TRec}
	t, err := schema.Put(t, api.Field{Name: "port", Type: api.Type{Kind: api.TInt, Lo: 3, Hi: 9}})
	fmt.Println(err == api.OK)
	t, err = schema.Put(t, api.Field{Name: "hosts", Optional: true, Type: api.Type{Kind: api.TList, Hi: 4, Of: []api.Type{{Kind: api.TBytes, Hi: 64}}}})
	fmt.Println(err == api.OK, schema.Field(t, "port"), schema.Size(t), schema.Depth(t))
	x, is := schema.At(t, "hosts", "0")
	fmt.Println(schema.Scalar(x), is)
	fmt.Println(text.Print(schema.Least(t)))
	_, err = schema.Drop(t, "tls")
	fmt.Println(err == api.ErrMiss)
	// Output:
	// true
	// true 1 4 3
	// true true
	// {port = 3}
	// true
}
