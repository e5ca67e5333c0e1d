package doc

import (
	"slices"
	"strconv"

	"cabochon/api"
)

// Get is what stands at the path, and true; a zero document, and false, if nothing does.
func Get(d api.Doc, path ...string) (api.Doc, bool) {
	found := at(&d, path...)
	if found == nil {
		return api.Doc{}, false
	}
	return Copy(*found), true
}

// Put is d, in which x stands at the path: instead of what was there, or as one kid more of what is ahead of its last part.
func Put(d api.Doc, x api.Doc, path ...string) (api.Doc, api.Errno) {
	if !Right(d) || !Right(x) {
		return api.Doc{}, api.ErrArg
	}
	if len(path) == 0 {
		return Copy(x), api.OK
	}
	whole := Copy(d)
	last := len(path) - 1
	home := at(&whole, path[:last]...)
	if home == nil || !set(home, path[last], Copy(x)) {
		return api.Doc{}, api.ErrNone
	}
	return whole, api.OK
}

// Drop is d without what stands at the path.
func Drop(d api.Doc, path ...string) (api.Doc, api.Errno) {
	if !Right(d) || len(path) == 0 {
		return api.Doc{}, api.ErrArg
	}
	whole := Copy(d)
	last := len(path) - 1
	home := at(&whole, path[:last]...)
	if home == nil || !unset(home, path[last]) {
		return api.Doc{}, api.ErrNone
	}
	return whole, api.OK
}

// at is where the path leads to within d, not a copy of it; nil, if it leads nowhere.
func at(d *api.Doc, path ...string) *api.Doc {
	for _, part := range path {
		i := find(*d, part)
		if i < 0 {
			return nil
		}
		d = &d.Kids[i]
	}
	return d
}

// find is the place of the kid that part tells, or -1. A document that is not right may have more keys than kids: a key without a kid finds nothing.
func find(d api.Doc, part string) int {
	i := -1
	switch d.Kind {
	case api.DRec, api.DDict:
		i = slices.Index(d.Keys, part)
	case api.DList:
		i = place(part)
	}
	if i >= len(d.Kids) {
		return -1
	}
	return i
}

// place is the number that part is in decimals, or -1. Only one way of writing it is taken, so that unlike paths lead to unlike places.
func place(part string) int {
	n, err := strconv.Atoi(part)
	if err != nil || n < 0 || strconv.Itoa(n) != part {
		return -1
	}
	return n
}

// set changes d itself, and tells whether it may have a kid there.
func set(d *api.Doc, part string, x api.Doc) bool {
	i := find(*d, part)
	switch {
	case i >= 0:
		d.Kids[i] = x
	case keyOf(d.Kind, part):
		i, _ = slices.BinarySearch(d.Keys, part)
		d.Keys = slices.Insert(d.Keys, i, part)
		d.Kids = slices.Insert(d.Kids, i, x)
	case d.Kind == api.DList && place(part) == len(d.Kids):
		d.Kids = append(d.Kids, x)
	default:
		return false
	}
	return true
}

// unset changes d itself, and tells whether it had a kid there.
func unset(d *api.Doc, part string) bool {
	i := find(*d, part)
	if i < 0 {
		return false
	}
	d.Kids = slices.Delete(d.Kids, i, i+1)
	if d.Kind != api.DList {
		d.Keys = slices.Delete(d.Keys, i, i+1)
	}
	return true
}
