package leaves_test

import (
	"fmt"

	"cabochon/api"
	"cabochon/leaves"
	"cabochon/text"
)

// The example of README.md.
func Example() {
	d, _, _ := text.Parse("{a = [1], b = <\"x\": 2>}")
	l := leaves.Flat(d)
	for _, x := range l {
		fmt.Println(x.Path, text.Print(x.Doc))
	}
	fmt.Println(leaves.Find(l, []string{"b", "x"}))
	d, err := leaves.Tree(leaves.Moved(l, []string{"b"}, []string{"c"}))
	fmt.Println(text.Print(d), err == api.OK)
	_, err = leaves.Tree(l[1:])
	fmt.Println(err == api.ErrMiss)
	// Output:
	// [] {}
	// [a] [1]
	// [b] <>
	// [b x] 2
	// 3
	// {a = [1], c = <"x": 2>} true
	// true
}
