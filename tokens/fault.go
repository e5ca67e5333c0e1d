package tokens

import "cabochon/api"

// fault is what a reading panics with: where that which is read is wrong, and how.
type fault struct {
	at  int
	err api.Errno
}

// Fail ends the reading that Caught goes through: what is read is wrong at that place.
func Fail(at int, err api.Errno) { panic(fault{at, err}) }

// Caught goes through a reading, and tells where and how it failed, if it did.
func Caught(reading func()) (at int, err api.Errno) {
	defer func() {
		if x := recover(); x != nil {
			wrong := x.(fault)
			at, err = wrong.at, wrong.err
		}
	}()
	reading()
	return 0, api.OK
}
