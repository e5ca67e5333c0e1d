package schema

import (
	"slices"

	"cabochon/api"
	"cabochon/doc"
)

// Field is the place of the first field of that name of the record t, or -1.
func Field(t api.Type, name string) int {
	if t.Kind != api.TRec {
		return -1
	}
	return slices.IndexFunc(t.Fields, func(f api.Field) bool { return f.Name == name })
}

// At is the type that stands at the path, and true; a zero type, and false, if none does.
func At(t api.Type, path ...string) (api.Type, bool) {
	for _, part := range path {
		below := within(&t, part)
		if below == nil {
			return api.Type{}, false
		}
		t = *below
	}
	return Copy(t), true
}

// within is the type that part leads to from t, not a copy of it; nil, if it leads nowhere. All entries of a dictionary are of one type, so that each key leads there.
func within(t *api.Type, part string) *api.Type {
	switch t.Kind {
	case api.TRec:
		if i := Field(*t, part); i >= 0 {
			return &t.Fields[i].Type
		}
	case api.TDict, api.TList:
		if len(t.Of) > 0 && (t.Kind == api.TDict || part == "0") {
			return &t.Of[0]
		}
	}
	return nil
}

// Put is the record t with one field more, which is f.
func Put(t api.Type, f api.Field) (api.Type, api.Errno) {
	if !record(t) || !doc.Name(f.Name) || !Right(f.Type) {
		return api.Type{}, api.ErrArg
	}
	if Field(t, f.Name) >= 0 {
		return api.Type{}, api.ErrTwice
	}
	whole := Copy(t)
	f.Type = Copy(f.Type)
	whole.Fields = slices.Insert(whole.Fields, behind(whole.Fields, f.Name), f)
	if !Right(whole) {
		return api.Type{}, api.ErrFull
	}
	return whole, api.OK
}

// Drop is the record t without the field of that name.
func Drop(t api.Type, name string) (api.Type, api.Errno) {
	if !record(t) {
		return api.Type{}, api.ErrArg
	}
	i := Field(t, name)
	if i < 0 {
		return api.Type{}, api.ErrMiss
	}
	whole := Copy(t)
	whole.Fields = slices.Delete(whole.Fields, i, i+1)
	return whole, api.OK
}

// record is whether t is the right type of a record.
func record(t api.Type) bool { return t.Kind == api.TRec && Right(t) }

// behind is the place for the name among fields whose names rise: ahead of the first that is behind it.
func behind(fields []api.Field, name string) int {
	i := slices.IndexFunc(fields, func(f api.Field) bool { return f.Name > name })
	if i < 0 {
		return len(fields)
	}
	return i
}
