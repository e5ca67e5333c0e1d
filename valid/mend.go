package valid

import (
	"slices"

	"cabochon/api"
	"cabochon/doc"
	"cabochon/schema"
)

// Mend is d, in which the least of its type stands instead of what is wrong, and for what is missing, without what is too much; and how many changes these are.
func Mend(t api.Type, d api.Doc) (api.Doc, int) {
	if !right(t, d) {
		return doc.Copy(d), 0
	}
	return mend(t, d)
}

// mend is Mend of what is right. What it makes may have more parts than a right document has: it is not looked at again.
func mend(t api.Type, d api.Doc) (api.Doc, int) {
	if fits(t, d) != api.OK {
		return schema.Least(t), 1
	}
	switch t.Kind {
	case api.TRec:
		return mendFields(t, d)
	case api.TDict, api.TList:
		return mendKids(t, d)
	}
	return doc.Copy(d), 0
}

// mendFields is mend of a record: fields rise by their names, so that its keys do.
func mendFields(t api.Type, d api.Doc) (api.Doc, int) {
	whole, changes := api.Doc{Kind: d.Kind}, len(more(t, d))
	for _, f := range t.Fields {
		kid, n := api.Doc{}, 1
		switch i := slices.Index(d.Keys, f.Name); {
		case i >= 0:
			kid, n = mend(f.Type, d.Kids[i])
		case f.Optional:
			continue
		default:
			kid = schema.Least(f.Type)
		}
		whole.Keys = append(whole.Keys, f.Name)
		whole.Kids = append(whole.Kids, kid)
		changes += n
	}
	return whole, changes
}

// mendKids is mend of a dictionary or a list, which has as many kids as it must.
func mendKids(t api.Type, d api.Doc) (api.Doc, int) {
	whole, changes := api.Doc{Kind: d.Kind, Keys: append([]string(nil), d.Keys...)}, 0
	for _, kid := range d.Kids {
		mended, n := mend(t.Of[0], kid)
		whole.Kids = append(whole.Kids, mended)
		changes += n
	}
	return whole, changes
}
