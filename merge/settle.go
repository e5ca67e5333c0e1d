package merge

import (
	"cabochon/api"
	"cabochon/doc"
)

// result is what comes of parts: those that hold, and the places at which it is not known which does.
type result struct {
	leaves  []api.Leaf
	out     []api.Res
	clashes []api.Clash
}

// settled is the result of all parts. Each clash uses up the first of takes, which answers it, if it is a side.
func settled(all []part, takes []int) result {
	var made result
	for _, p := range all {
		side := p.side()
		if side < 0 && len(takes) > 0 {
			side, takes = takes[0], takes[1:]
		}
		switch {
		case side < 0 || side >= len(p.has):
			made.clashes = append(made.clashes, p.at)
		case p.has[side] != nil:
			made.hold(p.at, *p.has[side])
		}
	}
	return made
}

// side is whose part holds, or -1: a clash.
func (p part) side() int {
	base, left, right := p.has[0], p.has[1], p.has[2]
	switch {
	case alike(left, right), alike(right, base):
		return 1
	case alike(left, base):
		return 2
	}
	return -1
}

func alike(a, b *api.Doc) bool {
	if a == nil || b == nil {
		return a == b
	}
	return doc.Same(*a, *b)
}

func (made *result) hold(at api.Clash, d api.Doc) {
	if at.Out {
		made.out = append(made.out, api.Res{Edge: at.Edge, Step: at.Step, At: at.Path, Doc: d})
	} else {
		made.leaves = append(made.leaves, api.Leaf{Path: at.Path, Doc: d})
	}
}
