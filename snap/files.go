package snap

import (
	"slices"
	"strings"

	"cabochon/api"
	"cabochon/apply"
)

// files is those of a snapshot, by rising names.
type files []api.File

// place is where the file of that name stands, or would stand, and whether it does.
func (l files) place(name string) (int, bool) {
	return slices.BinarySearchFunc(l, name, func(f api.File, name string) int { return strings.Compare(f.Name, name) })
}

// with is a copy of l with f, in the place of the file of its name, if there is one.
func (l files) with(f api.File) files {
	all := l.copied()
	i, is := all.place(f.Name)
	if !is {
		return slices.Insert(all, i, f)
	}
	all[i] = f
	return all
}

// without is a copy of l without the file at the place i.
func (l files) without(i int) files { return slices.Delete(l.copied(), i, i+1) }

func (l files) copied() files {
	var all files
	for _, f := range l {
		f.State = apply.Copy(f.State)
		all = append(all, f)
	}
	return all
}

func same(a, b api.File) bool {
	return a.Name == b.Name && a.Schema == b.Schema && apply.Same(a.State, b.State)
}
