package leaves

import (
	"iter"
	"slices"

	"cabochon/api"
	"cabochon/doc"
)

// Flat is the leaves of d, by rising paths.
func Flat(d api.Doc) []api.Leaf { return slices.SortedStableFunc(parts(d), byPath) }

// parts goes over the leaves of d, each of new memory: of every document ahead of its kids.
func parts(d api.Doc) iter.Seq[api.Leaf] {
	return func(yield func(api.Leaf) bool) { visit(nil, d, yield) }
}

// visit hands out the leaves of d, which stands at path, and tells whether more are wanted.
func visit(path []string, d api.Doc, yield func(api.Leaf) bool) bool {
	if !keyed(d) {
		return yield(api.Leaf{Path: joined(path), Doc: doc.Copy(d)})
	}
	keys, kids := d.Keys, d.Kids
	d.Keys, d.Kids = nil, nil
	if !yield(api.Leaf{Path: joined(path), Doc: d}) {
		return false
	}
	// A document that is not right may have more of the ones than of the others.
	for i := range min(len(keys), len(kids)) {
		if !visit(append(path, keys[i]), kids[i], yield) {
			return false
		}
	}
	return true
}

// keyed is whether the kids of d are leaves of their own.
func keyed(d api.Doc) bool { return d.Kind == api.DRec || d.Kind == api.DDict }

// Tree is the right document whose leaves l is, in whatever order.
func Tree(l []api.Leaf) (api.Doc, api.Errno) {
	sorted := Sort(l)
	if twice(sorted) {
		return api.Doc{}, api.ErrTwice
	}
	if miss(sorted) {
		return api.Doc{}, api.ErrMiss
	}
	d, _ := grown(sorted)
	if !doc.Right(d) || !Same(Flat(d), sorted) {
		return api.Doc{}, api.ErrArg
	}
	return d, api.OK
}

// twice is whether a path stands twice in l, which is sorted.
func twice(l []api.Leaf) bool {
	for i := 1; i < len(l); i++ {
		if byPath(l[i-1], l[i]) == 0 {
			return true
		}
	}
	return false
}

// miss is whether some leaf's home, or the root, is not in l, which is sorted, no path twice. What stands between a home and a leaf in it begins with the home too, so the leaf ahead tells whether it was there.
func miss(l []api.Leaf) bool {
	if len(l) == 0 || len(l[0].Path) > 0 {
		return true
	}
	for i := 1; i < len(l); i++ {
		path := l[i].Path
		if !begins(l[i-1].Path, path[:len(path)-1]) {
			return true
		}
	}
	return false
}

// grown is the document that begins with the first of l, of which the homes are all there, and the leaves behind it. It holds what the leaves tell even where that is not right, so that it can be held against them.
func grown(l []api.Leaf) (api.Doc, []api.Leaf) {
	d, depth := l[0].Doc, len(l[0].Path)
	l = l[1:]
	for len(l) > 0 && len(l[0].Path) > depth {
		d.Keys = append(d.Keys, l[0].Path[depth])
		var kid api.Doc
		kid, l = grown(l)
		d.Kids = append(d.Kids, kid)
	}
	return d, l
}
