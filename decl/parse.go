package decl

import (
	"slices"
	"strings"

	"cabochon/api"
	"cabochon/schema"
	"cabochon/tokens"
)

// Parse is the type that s is, and the length of s; or where s is first wrong, and how.
func Parse(s string) (api.Type, int, api.Errno) {
	l, at, err := Lex(s)
	if err != api.OK {
		return api.Type{}, at, err
	}
	return Type(l, len(s))
}

// Type is the type that the tokens are, and the end, which is where a token that is missing should stand; or where they are first wrong, and how.
func Type(l []api.Token, end int) (api.Type, int, api.Errno) {
	var t api.Type
	at, err := tokens.Read(l, end, func(r *tokens.Reader) { t = read(r) })
	if err != api.OK {
		return api.Type{}, at, err
	}
	if !schema.Right(t) {
		return api.Type{}, 0, api.ErrArg
	}
	return t, end, api.OK
}

func read(r *tokens.Reader) api.Type {
	switch {
	case r.Skip("{"):
		return readFields(r)
	case r.Skip("dict"):
		return readMany(r, api.TDict)
	case r.Skip("list"):
		return readMany(r, api.TList)
	}
	return r.Scalar()
}

func readFields(r *tokens.Reader) api.Type {
	t := api.Type{Kind: api.TRec}
	if r.Skip("}") {
		return t
	}
	seen := map[string]struct{}{}
	r.Row("}", func() {
		f := api.Field{Name: r.Once(seen, r.Name)}
		f.Optional = r.Skip("?")
		r.Take(":")
		f.Type = read(r)
		t.Fields = append(t.Fields, f)
	})
	slices.SortFunc(t.Fields, func(a, b api.Field) int { return strings.Compare(a.Name, b.Name) })
	return t
}

func readMany(r *tokens.Reader, kind int) api.Type {
	t := r.Ranged(kind)
	r.Take("of")
	t.Of = []api.Type{read(r)}
	return t
}
