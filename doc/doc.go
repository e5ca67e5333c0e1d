// Package doc is layer 1: trees of values: see shared/doc/01-doc.md.
package doc

import (
	"cmp"
	"slices"
	"strings"

	"cabochon/api"
)

// Name is whether s may be the name of a field.
func Name(s string) bool {
	if s == "" || len(s) > api.MaxName || !small(s[0]) {
		return false
	}
	for i := 1; i < len(s); i++ {
		if !small(s[i]) && !digit(s[i]) && s[i] != '_' {
			return false
		}
	}
	return true
}

func small(b byte) bool { return 'a' <= b && b <= 'z' }

func digit(b byte) bool { return '0' <= b && b <= '9' }

// Right is whether d is a right document.
func Right(d api.Doc) bool { return rest(d, api.MaxDepth, api.MaxParts) >= 0 }

// rest is how many of parts are left for what stands behind d, or -1, if d is not right. Both bounds are held on the way down, so that little is looked at of what is far beyond them.
func rest(d api.Doc, depth, parts int) int {
	if depth == 0 || parts <= len(d.Kids) || !sound(d) {
		return -1
	}
	parts--
	for _, kid := range d.Kids {
		parts = rest(kid, depth-1, parts)
		if parts < 0 {
			return -1
		}
	}
	return parts
}

// sound is whether d is right but for its kids.
func sound(d api.Doc) bool {
	if d.Num != 0 && d.Kind != api.DInt && (d.Kind != api.DBool || d.Num != 1) {
		return false
	}
	if d.Str != "" && (d.Kind != api.DBytes || len(d.Str) > api.MaxBytes) {
		return false
	}
	switch d.Kind {
	case api.DRec, api.DDict:
		return keyed(d)
	case api.DList:
		return len(d.Keys) == 0
	case api.DInt, api.DBool, api.DBytes:
		return len(d.Keys) == 0 && len(d.Kids) == 0
	}
	return false
}

// keyed is whether d has a key for each kid, all of them of its kind, and rising.
func keyed(d api.Doc) bool {
	if len(d.Keys) != len(d.Kids) {
		return false
	}
	for i, key := range d.Keys {
		if !keyOf(d.Kind, key) || i > 0 && d.Keys[i-1] >= key {
			return false
		}
	}
	return true
}

// keyOf is whether a document of that kind may have that key.
func keyOf(kind int, key string) bool {
	switch kind {
	case api.DRec:
		return Name(key)
	case api.DDict:
		return len(key) <= api.MaxBytes
	}
	return false
}

// Depth is 1, and the depth of the deepest kid.
func Depth(d api.Doc) int {
	deepest := 0
	for _, kid := range d.Kids {
		deepest = max(deepest, Depth(kid))
	}
	return deepest + 1
}

// Size is how many parts d has, itself among them.
func Size(d api.Doc) int {
	parts := 1
	for _, kid := range d.Kids {
		parts += Size(kid)
	}
	return parts
}

// Same is whether all parts are alike, in all depths.
func Same(a, b api.Doc) bool { return Compare(a, b) == 0 }

// Compare is -1, if a comes ahead of b, 1, if it comes behind, 0, if they are the same.
func Compare(a, b api.Doc) int {
	if c := compareRoots(a, b); c != 0 {
		return c
	}
	for i, kid := range a.Kids {
		if c := Compare(kid, b.Kids[i]); c != 0 {
			return c
		}
	}
	return 0
}

// compareRoots leaves only the kids undecided: where it tells 0, there are as many of both.
func compareRoots(a, b api.Doc) int {
	return cmp.Or(
		cmp.Compare(a.Kind, b.Kind),
		cmp.Compare(a.Num, b.Num),
		strings.Compare(a.Str, b.Str),
		cmp.Compare(len(a.Keys), len(b.Keys)),
		slices.Compare(a.Keys, b.Keys),
		cmp.Compare(len(a.Kids), len(b.Kids)),
	)
}

// Copy is d, of new memory in all depths.
func Copy(d api.Doc) api.Doc {
	d.Keys = append([]string(nil), d.Keys...)
	d.Kids = copies(d.Kids)
	return d
}

func copies(kids []api.Doc) []api.Doc {
	var l []api.Doc
	for _, kid := range kids {
		l = append(l, Copy(kid))
	}
	return l
}

// Rec is the record of these keys and kids, in whatever order they come; a zero document, if there are not as many of both.
func Rec(keys []string, kids []api.Doc) api.Doc {
	if len(keys) != len(kids) {
		return api.Doc{}
	}
	d := api.Doc{Kind: api.DRec}
	order := rising(keys)
	for i, k := range order {
		if i+1 < len(order) && keys[order[i+1]] == keys[k] {
			continue // a later one of the same key holds
		}
		d.Keys = append(d.Keys, keys[k])
		d.Kids = append(d.Kids, Copy(kids[k]))
	}
	return d
}

// rising is the places of keys, by rising keys; those of alike ones stay in their order.
func rising(keys []string) []int {
	places := make([]int, len(keys))
	for i := range places {
		places[i] = i
	}
	slices.SortStableFunc(places, func(a, b int) int { return strings.Compare(keys[a], keys[b]) })
	return places
}

// Int is the number n.
func Int(n int) api.Doc { return api.Doc{Kind: api.DInt, Num: n} }

// Bool is yes or no.
func Bool(is bool) api.Doc {
	d := api.Doc{Kind: api.DBool}
	if is {
		d.Num = 1
	}
	return d
}

// Bytes is the byte string s.
func Bytes(s string) api.Doc { return api.Doc{Kind: api.DBytes, Str: s} }

// List is the list of these kids.
func List(kids ...api.Doc) api.Doc { return api.Doc{Kind: api.DList, Kids: copies(kids)} }
