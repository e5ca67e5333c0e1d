package decl_test

import (
	"fmt"

	"cabochon/api"
	"cabochon/decl"
)

// The example of README.md.
func Example() {
	t, at, err := decl.Parse("{port: int (3 .. 9), hosts?: list (0 .. 4) of bytes (1 .. 64)}")
	fmt.Println(at, err == api.OK)
	fmt.Println(decl.Print(t))
	_, at, err = decl.Parse("{port: bool, port: bool}")
	fmt.Println(at, err == api.ErrTwice)
	_, at, err = decl.Parse("{in: bool}")
	fmt.Println(at, err == api.ErrForm)
	_, at, err = decl.Parse("int (3 .. 1)")
	fmt.Println(at, err == api.ErrArg)
	l, _, _ := decl.Lex("port = -1")
	for _, x := range l {
		fmt.Println(x.Kind, x.Text, x.At)
	}
	// Output:
	// 62 true
	// {hosts?: list (0 .. 4) of bytes (1 .. 64), port: int (3 .. 9)}
	// 13 true
	// 1 true
	// 0 true
	// 1 port 0
	// 4 = 5
	// 2 -1 7
}
