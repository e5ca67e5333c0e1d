package graph_test

import (
	"slices"

	"cabochon/api"
	"cabochon/doc"
	"cabochon/lens"
	"cabochon/schema"
)

// What the chapter says, line by line, of registries that are gone over by the names of their schemas.

func namesOf(r api.Registry) []string {
	var l []string
	for _, s := range r.Schemas {
		l = append(l, s.Name)
	}
	return l
}

// parts is the components, each a row of places that rise: all schemas are alone, and each join makes one component of two.
func parts(r api.Registry) [][]int {
	var all [][]int
	for k := range r.Schemas {
		all = append(all, []int{k})
	}
	for _, j := range r.Joins {
		one, two := partOf(all, j.From), partOf(all, j.To)
		if one != two {
			both := slices.Sorted(slices.Values(append(slices.Clone(all[one]), all[two]...)))
			all[one] = both
			all = slices.Delete(all, two, two+1)
		}
	}
	return all
}

func partOf(all [][]int, k int) int {
	return slices.IndexFunc(all, func(l []int) bool { return slices.Contains(l, k) })
}

// saidSchema is what is said of AddSchema at a right registry.
func saidSchema(r api.Registry, name string, t api.Type) (api.Registry, api.Errno) {
	switch {
	case !doc.Name(name), t.Kind != api.TRec, !schema.Right(t):
		return api.Registry{}, api.ErrArg
	case slices.Contains(namesOf(r), name):
		return api.Registry{}, api.ErrTwice
	case len(r.Schemas) == 12:
		return api.Registry{}, api.ErrFull
	}
	return api.Registry{Schemas: append(slices.Clone(r.Schemas), api.Named{Name: name, Type: t}), Joins: r.Joins}, api.OK
}

// saidJoin is what is said of AddJoin at a right registry.
func saidJoin(r api.Registry, from, to string, l []api.Lens) (api.Registry, api.Errno) {
	all := parts(r)
	i, k := slices.Index(namesOf(r), from), slices.Index(namesOf(r), to)
	if i < 0 || k < 0 {
		return api.Registry{}, api.ErrNone
	}
	made, _, err := lens.Target(r.Schemas[i].Type, l)
	switch {
	case partOf(all, i) == partOf(all, k):
		return api.Registry{}, api.ErrCycle
	case err != api.OK:
		return api.Registry{}, err
	case show(made) != show(r.Schemas[k].Type):
		return api.Registry{}, api.ErrType
	}
	return api.Registry{Schemas: r.Schemas, Joins: append(slices.Clone(r.Joins), join(i, k, l...))}, api.OK
}

// saidRight is what is said of Right.
func saidRight(r api.Registry) bool {
	var made api.Registry
	err := api.OK
	for _, s := range r.Schemas {
		if made, err = saidSchema(made, s.Name, s.Type); err != api.OK {
			return false
		}
	}
	for _, j := range r.Joins {
		if min(j.From, j.To) < 0 || max(j.From, j.To) >= len(r.Schemas) {
			return false
		}
		if made, err = saidJoin(made, r.Schemas[j.From].Name, r.Schemas[j.To].Name, j.Lens); err != api.OK {
			return false
		}
	}
	return show(made) == show(r)
}

// saidUnion is what is said of Union.
func saidUnion(a, b api.Registry) (api.Registry, api.Errno) {
	if !saidRight(a) || !saidRight(b) {
		return api.Registry{}, api.ErrArg
	}
	for _, s := range a.Schemas {
		for _, other := range b.Schemas {
			if s.Name == other.Name && show(s.Type) != show(other.Type) {
				return api.Registry{}, api.ErrTwice
			}
		}
	}
	made, err := a, api.OK
	for _, s := range b.Schemas {
		if slices.Contains(namesOf(a), s.Name) {
			continue
		}
		if made, err = saidSchema(made, s.Name, s.Type); err != api.OK {
			return api.Registry{}, err
		}
	}
	for _, j := range b.Joins {
		if slices.Contains(joinsOf(a), joinOf(b, j)) {
			continue
		}
		if made, err = saidJoin(made, b.Schemas[j.From].Name, b.Schemas[j.To].Name, j.Lens); err != api.OK {
			return api.Registry{}, err
		}
	}
	return made, api.OK
}

// joinOf is a join by the names of its schemas, as a text.
func joinOf(r api.Registry, j api.Join) string {
	return r.Schemas[j.From].Name + " " + r.Schemas[j.To].Name + " " + show(j.Lens)
}

func joinsOf(r api.Registry) []string {
	var l []string
	for _, j := range r.Joins {
		l = append(l, joinOf(r, j))
	}
	return l
}

// saidAround is the joins of the schema k.
func saidAround(r api.Registry, k int) []api.Hop {
	var l []api.Hop
	for i, j := range r.Joins {
		if j.From == k {
			l = append(l, forth(i))
		}
		if j.To == k {
			l = append(l, back(i))
		}
	}
	return l
}

// saidPath is the one way: of all joins those that are left, when one behind the other is taken away that leads to a schema at which nothing begins or goes on, put in order.
func saidPath(r api.Registry, from, to int) ([]api.Hop, api.Errno) {
	switch n := len(r.Schemas); {
	case from < 0 || from >= n || to < 0 || to >= n:
		return nil, api.ErrNone
	case partOf(parts(r), from) != partOf(parts(r), to):
		return nil, api.ErrNoPath
	}
	left := map[int]api.Join{}
	for i, j := range r.Joins {
		left[i] = j
	}
	for range r.Joins {
		for i, j := range left {
			if idle(left, j.From, from, to) || idle(left, j.To, from, to) {
				delete(left, i)
			}
		}
	}
	var l []api.Hop
	for at := from; at != to; {
		for i, j := range left {
			if j.From == at {
				l, at = append(l, forth(i)), j.To
				delete(left, i)
			} else if j.To == at {
				l, at = append(l, back(i)), j.From
				delete(left, i)
			}
		}
	}
	return l, api.OK
}

// idle is whether the schema k is neither where a way begins or ends, nor between two joins.
func idle(left map[int]api.Join, k, from, to int) bool {
	n := 0
	for _, j := range left {
		if j.From == k || j.To == k {
			n++
		}
	}
	return n == 1 && k != from && k != to
}
