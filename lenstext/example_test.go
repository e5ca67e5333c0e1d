package lenstext_test

import (
	"fmt"

	"cabochon/api"
	"cabochon/lens"
	"cabochon/lenstext"
)

// The example of README.md.
func Example() {
	l, at, err := lenstext.Parse("rename port to ports; wrap ports; in tls {add old: bool = false;};")
	fmt.Println(at, err == api.OK, len(l))
	fmt.Println(lenstext.Print(lens.Back(l)))
	fmt.Println(lenstext.Step(l[0]))
	_, at, err = lenstext.Parse("hoist on from tls;")
	fmt.Println(at, err == api.ErrForm)
	_, at, err = lenstext.Parse("rename port to in;")
	fmt.Println(at, err == api.ErrForm)
	l, at, err = lenstext.Parse("add old: int (3 .. 1) = true;")
	fmt.Println(at, err == api.OK, len(l))
	// Output:
	// 66 true 3
	// in tls {remove old: bool = false;}; head ports; rename ports to port;
	// rename port to ports
	// 9 true
	// 15 true
	// 29 true 1
}
