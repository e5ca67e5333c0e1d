package snap_test

import (
	"fmt"

	"cabochon/api"
	"cabochon/decl"
	"cabochon/lenstext"
	"cabochon/snap"
	"cabochon/text"
)

// The example of README.md.
func Example() {
	one, _, _ := decl.Parse("{port: int (0 .. 9)}")
	two, _, _ := decl.Parse("{port: int (0 .. 9), tls: bool}")
	add, _, _ := lenstext.Parse("add tls: bool = false;")
	s, _ := snap.Declare(api.Snap{}, "one", one)
	s, _ = snap.Declare(s, "two", two)
	s, err := snap.Join(s, "one", "two", add)
	fmt.Println(err == api.OK)

	d, _, _ := text.Parse("{port = 5, tls = true}")
	s, err = snap.Write(s, "web", "two", d)
	fmt.Println(snap.Find(s, "web"), err == api.OK)
	d, _, _ = text.Parse("{port = 6}")
	s, err = snap.Write(s, "web", "one", d)
	fmt.Println(s.Files[0].Schema, text.Print(s.Files[0].State.Res[0].Doc), err == api.OK)
	d, err = snap.Read(s, "web", "two")
	fmt.Println(text.Print(d), err == api.OK)

	m, err := snap.Migrate(s, "web", "two")
	fmt.Println(m.Files[0].Schema, len(m.Files[0].State.Res), err == api.OK)
	back, _ := snap.Migrate(m, "web", "one")
	fmt.Println(snap.Same(back, s))

	s, _ = snap.Declare(s, "three", two)
	_, err = snap.Read(s, "web", "three")
	fmt.Println(err == api.ErrNoPath)
	s, _ = snap.Join(s, "three", "two", nil)
	d, err = snap.Read(s, "web", "three")
	fmt.Println(text.Print(d), err == api.OK)
	s, err = snap.Drop(s, "web")
	fmt.Println(len(s.Files), snap.Find(s, "web"), err == api.OK)
	_, err = snap.Write(s, "Web", "one", d)
	fmt.Println(err == api.ErrArg)
	// Output:
	// true
	// 0 true
	// 0 true true
	// {port = 6, tls = true} true
	// 1 0 true
	// true
	// true
	// {port = 6, tls = true} true
	// 0 -1 true
	// true
}
