package valid_test

import (
	"slices"
	"strings"

	"cabochon/api"
)

// sample is {d: dict 1..3 of {n: int 3..9, o?: bool}, e: a | b, l: list 0..2 of bytes 1..2, o?: {x: bool}}.
func sample() api.Type {
	return rec(
		field("d", dict(1, 3, rec(field("n", number(3, 9)), optional("o", yes())))),
		field("e", enum("a", "b")),
		field("l", list(0, 2, str(1, 2))),
		optional("o", rec(field("x", yes()))),
	)
}

// ofSample is a document of that type.
func ofSample() api.Doc {
	return dRec(keys("d", "e", "l"),
		dDict(keys("", "k"), dRec(keys("n"), dInt(3)), dRec(keys("n", "o"), dInt(9), dBool(1))),
		dBytes("b"),
		dList(dBytes("x"), dBytes("yy")),
	)
}

// wrongTypes is types that are not right, each by one thing alone.
func wrongTypes() map[string]api.Type {
	many := rec()
	for _, name := range names(4) {
		many.Fields = append(many.Fields, field(name, rec()))
		for _, below := range names(31) {
			f := &many.Fields[len(many.Fields)-1].Type.Fields
			*f = append(*f, field(below, yes()))
		}
	}
	wide := rec()
	for _, name := range names(api.MaxFields + 1) {
		wide.Fields = append(wide.Fields, optional(name, yes()))
	}
	return map[string]api.Type{
		"of no kind":              {},
		"of a kind below":         {Kind: -1},
		"of a kind above":         {Kind: 8},
		"a record with a highest": {Kind: api.TRec, Hi: 1},
		"a record of something":   {Kind: api.TRec, Of: []api.Type{yes()}},
		"falling fields":          rec(optional("b", yes()), optional("a", yes())),
		"fields alike":            rec(optional("a", yes()), optional("a", yes())),
		"a field of no name":      rec(optional("A", yes())),
		"a field of a wrong type": rec(optional("a", number(1, 0))),
		"a field too many":        wide,
		"a dict of nothing":       {Kind: api.TDict, Hi: 1},
		"a dict of two":           {Kind: api.TDict, Hi: 1, Of: []api.Type{yes(), yes()}},
		"a dict below nothing":    dict(-1, 1, yes()),
		"a dict turned":           dict(2, 1, yes()),
		"a list of nothing":       {Kind: api.TList, Hi: 1},
		"a list below nothing":    list(-1, 1, yes()),
		"a list turned":           list(2, 1, yes()),
		"a list of a wrong type":  list(0, 1, enum()),
		"a number turned":         number(1, 0),
		"a number with a name":    {Kind: api.TInt, Names: keys("a")},
		"a bool with a highest":   {Kind: api.TBool, Hi: 1},
		"bytes below nothing":     str(-1, 1),
		"bytes turned":            str(2, 1),
		"bytes too long":          str(0, api.MaxBytes+1),
		"an enum of none":         enum(),
		"an enum that falls":      enum("b", "a"),
		"an enum with a lowest":   {Kind: api.TEnum, Lo: -1, Names: keys("a")},
		"wrong deep below":        nested(8, rec(field("a", yes()), field("b", enum()))),
		"too deep":                nested(api.MaxDepth+1, yes()),
		"far too deep":            nested(1<<16, yes()),
		"a part too many":         many,
	}
}

// wrongDocs is documents that are not right, each by one thing alone.
func wrongDocs() map[string]api.Doc {
	return map[string]api.Doc{
		"of no kind":               {},
		"of a kind below":          {Kind: -1},
		"of a kind above":          {Kind: 7},
		"a record without its key": dRec(nil, dInt(1)),
		"a record without its kid": dRec(keys("a")),
		"falling keys":             dRec(keys("b", "a"), dInt(1), dInt(1)),
		"keys alike":               dRec(keys("a", "a"), dInt(1), dInt(1)),
		"a key of no name":         dRec(keys("A"), dInt(1)),
		"a record with a number":   {Kind: api.DRec, Num: 1},
		"a dict's falling keys":    dDict(keys("b", "a"), dInt(1), dInt(1)),
		"a dict's long key":        dDict(keys(strings.Repeat("k", api.MaxBytes+1)), dInt(1)),
		"a dict with a text":       {Kind: api.DDict, Str: "a"},
		"a list with a key":        {Kind: api.DList, Keys: keys("a"), Kids: []api.Doc{dInt(1)}},
		"a number with a kid":      {Kind: api.DInt, Kids: []api.Doc{dInt(1)}},
		"a bool that is 2":         dBool(2),
		"a bool that is below":     dBool(-1),
		"bytes too long":           dBytes(strings.Repeat("a", api.MaxBytes+1)),
		"bytes with a number":      {Kind: api.DBytes, Num: 1, Str: "a"},
		"a kid of no kind":         dList(dInt(1), api.Doc{}),
		"wrong deep below":         dNested(8, dRec(keys("a", "b"), dInt(1), dBool(2))),
		"too deep":                 dNested(api.MaxDepth+1, dInt(1)),
		"far too deep":             dNested(1<<16, dInt(1)),
		"a part too many":          dList(slices.Repeat([]api.Doc{dInt(1)}, api.MaxParts)...),
		"far too many parts":       dList(slices.Repeat([]api.Doc{dInt(1)}, 1<<16)...),
	}
}

// kinds is a right type of each kind, and a document of it.
func kinds() map[string]pair {
	return map[string]pair{
		"a record":       {rec(), dRec(nil)},
		"a record of a":  {rec(field("a", yes())), dRec(keys("a"), dBool(1))},
		"a dict":         {dict(0, 9, yes()), dDict(keys("k"), dBool(0))},
		"a list":         {list(0, 9, yes()), dList(dBool(0))},
		"a number":       {number(-9, 9), dInt(1)},
		"a bool":         {yes(), dBool(1)},
		"a byte string":  {str(0, 9), dBytes("a")},
		"an enum":        {enum("a"), dBytes("a")},
		"the sample":     {sample(), ofSample()},
		"a deep one":     {nested(api.MaxDepth, yes()), dNested(api.MaxDepth, dBool(0))},
		"a list of all":  {list(0, api.MaxInt, number(0, 9)), dList(slices.Repeat([]api.Doc{dInt(1)}, api.MaxParts-1)...)},
		"any byte there": {str(1, 1), dBytes("\x00")},
	}
}
