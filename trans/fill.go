package trans

import (
	"slices"

	"cabochon/api"
	"cabochon/apply"
)

// filled is s, a state of the schema k, filled there once. What apply tells on the way is a state of the schema that it leads to, so that none of them is looked at again.
func filled(r api.Registry, k int, s api.State) (api.State, api.Errno) {
	var fill func(k, by int, s api.State) (api.State, api.Errno)
	fill = func(k, by int, s api.State) (api.State, api.Errno) {
		for _, h := range away(r, k, by) {
			_, to := ends(r, h)
			there, err := through(r, h, needed(r, h, s))
			if err == api.OK {
				there, err = fill(to, h.Join, there)
			}
			if err == api.OK {
				there, err = through(r, turned(h), there)
			}
			if err != api.OK {
				return api.State{}, err
			}
			s = there
		}
		return s, api.OK
	}
	return fill(k, -1, s)
}

// away is the joins of the schema k, in order, but the one by which it was come to. (It is not asked of graph, which would look at all of r anew at each schema: that would take longer than all else.)
func away(r api.Registry, k, by int) []api.Hop {
	var l []api.Hop
	for i, j := range r.Joins {
		if i != by && (j.From == k || j.To == k) {
			l = append(l, api.Hop{Join: i, Back: j.To == k})
		}
	}
	return l
}

// needed is s with something left out at each place at which h takes it. It changes the row of s itself, which is filled's own.
func needed(r api.Registry, h api.Hop, s api.State) api.State {
	from, _ := ends(r, h)
	for _, x := range apply.Needs(r.Schemas[from].Type, r.Joins[h.Join].Lens, h.Join, h.Back, s.Doc) {
		if i, is := slices.BinarySearchFunc(s.Res, x, apply.Less); !is {
			s.Res = slices.Insert(s.Res, i, x)
		}
	}
	return s
}

// through is s behind h.
func through(r api.Registry, h api.Hop, s api.State) (api.State, api.Errno) {
	from, _ := ends(r, h)
	return apply.Go(r.Schemas[from].Type, r.Joins[h.Join].Lens, h.Join, h.Back, s)
}

// ends is the schemas from which, and to which, h leads.
func ends(r api.Registry, h api.Hop) (from, to int) {
	j := r.Joins[h.Join]
	if h.Back {
		return j.To, j.From
	}
	return j.From, j.To
}

// turned is h the other way round.
func turned(h api.Hop) api.Hop { return api.Hop{Join: h.Join, Back: !h.Back} }
