package decl

import "cabochon/api"

// fault is what a reading panics with: where that which is read is wrong, and how.
type fault struct {
	at  int
	err api.Errno
}

func fail(at int, err api.Errno) { panic(fault{at, err}) }

// caught goes through a reading, and tells where and how it failed, if it did.
func caught(reading func()) (at int, err api.Errno) {
	defer func() {
		if x := recover(); x != nil {
			wrong := x.(fault)
			at, err = wrong.at, wrong.err
		}
	}()
	reading()
	return 0, api.OK
}
