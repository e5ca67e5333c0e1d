package schema

import (
	"strconv"
	"strings"

	"cabochon/api"
	"cabochon/doc"
)

// mostKids is how many kids of a dictionary or a list Least makes, however many there must be.
const mostKids = 8

// Least is the least document of the type t: one that has no more than what must be there.
func Least(t api.Type) api.Doc {
	if !Right(t) {
		return api.Doc{} // such a type may ask for more than there is room for
	}
	var least func(t api.Type) api.Doc
	least = func(t api.Type) api.Doc {
		d := root(t)
		for _, f := range t.Fields {
			if !f.Optional {
				d.Keys = append(d.Keys, f.Name)
				d.Kids = append(d.Kids, least(f.Type))
			}
		}
		for _, of := range t.Of {
			for i := range min(t.Lo, mostKids) {
				if t.Kind == api.TDict {
					d.Keys = append(d.Keys, "k"+strconv.Itoa(i))
				}
				d.Kids = append(d.Kids, least(of))
			}
		}
		return d
	}
	return least(t)
}

// root is the least document of t, which is right, but for its keys and kids.
func root(t api.Type) api.Doc {
	switch t.Kind {
	case api.TRec:
		return api.Doc{Kind: api.DRec}
	case api.TDict:
		return api.Doc{Kind: api.DDict}
	case api.TList:
		return doc.List()
	case api.TInt:
		return doc.Int(max(t.Lo, min(t.Hi, 0)))
	case api.TBytes:
		return doc.Bytes(strings.Repeat("a", t.Lo))
	case api.TEnum:
		return doc.Bytes(t.Names[0])
	}
	return doc.Bool(false)
}
