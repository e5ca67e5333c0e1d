package apply

import (
	"cmp"
	"slices"

	"cabochon/api"
	"cabochon/doc"
)

// Less is -1, if the place of a comes ahead of that of b, 1, if it comes behind, 0, if it is the same.
func Less(a, b api.Res) int {
	return cmp.Or(cmp.Compare(a.Edge, b.Edge), slices.Compare(a.Step, b.Step), slices.Compare(a.At, b.At))
}

// same is whether place and document are alike.
func same(a, b api.Res) bool { return Less(a, b) == 0 && doc.Same(a.Doc, b.Doc) }

// Right is whether l may be what is left out of a document.
func Right(l []api.Res) bool {
	if len(l) > api.MaxRes {
		return false
	}
	for i, x := range l {
		if i > 0 && Less(l[i-1], x) >= 0 || !doc.Right(x.Doc) {
			return false
		}
	}
	return true
}

// Find is where in l the first of that place is, or -1.
func Find(l []api.Res, edge int, step []int, at []string) int {
	return slices.IndexFunc(l, placed(edge, step, at))
}

// Put is l with x alone at x's place.
func Put(l []api.Res, x api.Res) []api.Res {
	rest := Drop(l, x.Edge, x.Step, x.At)
	i := slices.IndexFunc(rest, func(r api.Res) bool { return Less(r, x) > 0 })
	if i < 0 {
		i = len(rest)
	}
	return slices.Insert(rest, i, copied(x))
}

// Drop is l without those of that place.
func Drop(l []api.Res, edge int, step []int, at []string) []api.Res {
	return without(l, placed(edge, step, at))
}

// placed tells of what is left out whether it is so at that place.
func placed(edge int, step []int, at []string) func(x api.Res) bool {
	place := api.Res{Edge: edge, Step: step, At: at}
	return func(x api.Res) bool { return Less(x, place) == 0 }
}

// without is a copy of l, but for those that are refused.
func without(l []api.Res, refused func(x api.Res) bool) []api.Res {
	var rest []api.Res
	for _, x := range l {
		if !refused(x) {
			rest = append(rest, copied(x))
		}
	}
	return rest
}

func copied(x api.Res) api.Res {
	return api.Res{Edge: x.Edge, Step: append([]int(nil), x.Step...), At: append([]string(nil), x.At...), Doc: doc.Copy(x.Doc)}
}
