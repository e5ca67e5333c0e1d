package doc_test

import (
	"fmt"

	"cabochon/api"
	"cabochon/doc"
)

// The example of README.md.
func Example() {
	d := doc.Rec([]string{"port", "hosts"}, []api.Doc{doc.Int(80), doc.List(doc.Bytes("a"))})
	d, err := doc.Put(d, doc.Bytes("b"), "hosts", "1")
	fmt.Println(err == api.OK, doc.Size(d))
	x, is := doc.Get(d, "hosts", "1")
	fmt.Println(x.Str, is)
	_, err = doc.Drop(d, "hosts", "2")
	fmt.Println(err == api.ErrNone)
	// Output:
	// true 5
	// b true
	// true
}
