package text_test

import (
	"fmt"

	"cabochon/api"
	"cabochon/text"
)

// The example of README.md.
func Example() {
	d, at, err := text.Parse("{port = 80, hosts = [\"a\", \"b\"]}")
	fmt.Println(at, err == api.OK)
	fmt.Println(text.Print(d))
	_, at, err = text.Parse("{port = 80, port = 81}")
	fmt.Println(at, err == api.ErrTwice)
	fmt.Println(text.Quote("a\n\""))
	// Output:
	// 31 true
	// {hosts = ["a", "b"], port = 80}
	// 12 true
	// "a\x0a\""
}
