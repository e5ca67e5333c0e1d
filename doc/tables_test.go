package doc_test

import (
	"strings"

	"cabochon/api"
)

// wrong is documents that are not right, each by one thing alone.
func wrong() map[string]api.Doc {
	many := wide(api.MaxParts)
	many.Kids[0] = list(num(0))
	return map[string]api.Doc{
		"of no kind":              {},
		"of a kind below":         {Kind: -1},
		"of a kind above":         {Kind: 7},
		"of no kind, with a kid":  {Keys: keys("a"), Kids: []api.Doc{num(1)}},
		"a field too many":        rec(keys("a", "b"), num(1)),
		"a key too many":          dict(keys("a", "b"), num(1)),
		"a kid too many":          rec(keys("a"), num(1), num(2)),
		"no keys":                 dict(nil, num(1)),
		"no kids":                 dict(keys("a")),
		"falling fields":          rec(keys("b", "a"), num(1), num(2)),
		"falling keys":            dict(keys("a", "c", "b"), num(1), num(2), num(3)),
		"fields alike":            rec(keys("a", "a"), num(1), num(2)),
		"keys alike":              dict(keys("a", "a"), num(1), num(2)),
		"a field of no name":      rec(keys("A"), num(1)),
		"a field of an empty one": rec(keys(""), num(1)),
		"a field of a long one":   rec(keys(strings.Repeat("a", api.MaxName+1)), num(1)),
		"a later field":           rec(keys("a", "b-"), num(1), num(2)),
		"a key too long":          dict(keys(strings.Repeat("a", api.MaxBytes+1)), num(1)),
		"a list with a key":       {Kind: api.DList, Keys: keys("0"), Kids: []api.Doc{num(1)}},
		"a list with a bare key":  {Kind: api.DList, Keys: keys("0")},
		"a number with a key":     {Kind: api.DInt, Keys: keys("a")},
		"a bool with a key":       {Kind: api.DBool, Keys: keys("a")},
		"bytes with a key":        {Kind: api.DBytes, Keys: keys("a")},
		"a number with a kid":     {Kind: api.DInt, Kids: []api.Doc{num(1)}},
		"a bool with a kid":       {Kind: api.DBool, Kids: []api.Doc{num(1)}},
		"bytes with a kid":        {Kind: api.DBytes, Kids: []api.Doc{num(1)}},
		"a number with both":      {Kind: api.DInt, Keys: keys("a"), Kids: []api.Doc{num(1)}},
		"a record with a number":  {Kind: api.DRec, Num: 1},
		"a dict with a number":    {Kind: api.DDict, Num: 1},
		"a list with a number":    {Kind: api.DList, Num: -1},
		"bytes with a number":     {Kind: api.DBytes, Num: 1},
		"a bool that is 2":        {Kind: api.DBool, Num: 2},
		"a bool that is -1":       {Kind: api.DBool, Num: -1},
		"a record with bytes":     {Kind: api.DRec, Str: "x"},
		"a dict with bytes":       {Kind: api.DDict, Str: "x"},
		"a list with bytes":       {Kind: api.DList, Str: "x"},
		"a number with bytes":     {Kind: api.DInt, Str: "x"},
		"a bool with bytes":       {Kind: api.DBool, Str: "x"},
		"bytes too long":          str(strings.Repeat("a", api.MaxBytes+1)),
		"a wrong kid of a record": rec(keys("a"), api.Doc{}),
		"a wrong kid of a dict":   dict(keys("a"), api.Doc{}),
		"a wrong kid of a list":   list(api.Doc{}),
		"a wrong last kid":        list(num(1), num(2), api.Doc{Kind: 9}),
		"a wrong kid below":       list(num(1), rec(keys("a"), list(num(1), str(strings.Repeat("a", api.MaxBytes+1)))), num(1)),
		"too deep":                chain(api.MaxDepth + 1),
		"too deep by a record":    rec(keys("a"), chain(api.MaxDepth)),
		"too deep at its end":     list(num(1), chain(api.MaxDepth)),
		"far too deep":            chain(1 << 16),
		"a part too many":         wide(api.MaxParts + 1),
		"a part too many below":   many,
		"a part too many beside":  list(wide(api.MaxParts-1), num(1)),
		"far too many parts":      wide(1 << 17),
	}
}

// right is documents that are right, at the edges too.
func right() map[string]api.Doc {
	brim := wide(api.MaxParts - 1)
	brim.Kids[0] = list(num(0))
	return map[string]api.Doc{
		"an empty record":       rec(nil),
		"an empty dict":         dict([]string{}),
		"an empty list":         {Kind: api.DList, Keys: []string{}, Kids: []api.Doc{}},
		"a number, empty rows":  {Kind: api.DInt, Keys: []string{}, Kids: []api.Doc{}},
		"a bool, empty rows":    {Kind: api.DBool, Num: 1, Keys: []string{}, Kids: []api.Doc{}},
		"bytes, empty rows":     {Kind: api.DBytes, Keys: []string{}, Kids: []api.Doc{}},
		"a number":              num(0),
		"the least number":      num(api.MinInt),
		"the greatest number":   num(api.MaxInt),
		"no":                    {Kind: api.DBool},
		"yes":                   {Kind: api.DBool, Num: 1},
		"no bytes":              str(""),
		"all sorts of bytes":    str("\x00\xff\n\"\\"),
		"bytes at the limit":    str(strings.Repeat("z", api.MaxBytes)),
		"a record":              rec(keys("a", "a0", "a_", "aa", "b"), num(1), num(2), num(3), num(4), num(5)),
		"a name at the limit":   rec(keys(strings.Repeat("a", api.MaxName)), num(1)),
		"a dict of odd keys":    dict(keys("", "\x00", "A", "a", "a b", "\xff"), num(1), num(1), num(1), num(1), num(1), num(1)),
		"a key at the limit":    dict(keys(strings.Repeat("z", api.MaxBytes)), num(1)),
		"a list of all kinds":   list(rec(nil), dict(nil), list(), num(1), api.Doc{Kind: api.DBool}, str("x")),
		"a list of alike ones":  list(num(1), num(1)),
		"as deep as may be":     chain(api.MaxDepth),
		"deep, and at the side": list(num(1), chain(api.MaxDepth-1), num(1)),
		"all parts":             wide(api.MaxParts),
		"all parts, with one":   brim,
		"all parts, beside":     list(wide(api.MaxParts-2), num(1)),
	}
}

// ladder is documents that rise by what Compare looks at; what it looks at later falls where it can, so that the order of looking shows.
func ladder() []api.Doc {
	return []api.Doc{
		{Kind: api.MinInt, Num: 9},
		{Kind: -1, Num: 9},
		{},
		{Kind: 1, Num: api.MinInt, Str: "z"},
		{Kind: 1, Num: -1, Str: "z"},
		{Kind: 1, Num: 0, Str: "", Keys: keys("z", "z")},
		{Kind: 1, Num: 0, Str: "\x00", Keys: keys("z", "z")},
		{Kind: 1, Num: 0, Str: "a", Keys: keys("z", "z")},
		{Kind: 1, Num: 0, Str: "ab", Keys: keys("z", "z")},
		{Kind: 1, Num: 0, Str: "b", Keys: keys("z", "z")},
		{Kind: 1, Num: 0, Str: "\xff", Keys: nil, Kids: []api.Doc{num(9), num(9)}},
		{Kind: 1, Num: 0, Str: "\xff", Keys: keys("z"), Kids: []api.Doc{num(9), num(9)}},
		{Kind: 1, Num: 0, Str: "\xff", Keys: keys("", "z"), Kids: []api.Doc{num(9), num(9)}},
		{Kind: 1, Num: 0, Str: "\xff", Keys: keys("a", "y"), Kids: []api.Doc{num(9), num(9)}},
		{Kind: 1, Num: 0, Str: "\xff", Keys: keys("a", "z"), Kids: []api.Doc{num(9)}},
		{Kind: 1, Num: 0, Str: "\xff", Keys: keys("a", "z"), Kids: []api.Doc{num(1), num(9)}},
		{Kind: 1, Num: 0, Str: "\xff", Keys: keys("a", "z"), Kids: []api.Doc{num(2), num(1)}},
		{Kind: 1, Num: 0, Str: "\xff", Keys: keys("a", "z"), Kids: []api.Doc{num(2), num(2)}},
		{Kind: 1, Num: 0, Str: "\xff", Keys: keys("a", "z"), Kids: []api.Doc{num(2), {Kind: 5, Num: -7}}},
		{Kind: 1, Num: 1, Str: ""},
		{Kind: 1, Num: api.MaxInt},
		{Kind: 2, Num: 0},
		list(),
		list(list(list(num(3))), num(0)),
		list(list(list(num(4))), num(0)),
		list(list(num(0), num(0)), num(0)),
		list(num(api.MinInt), num(0)),
		list(num(api.MaxInt), num(0)),
		num(api.MinInt),
		num(-1),
		num(0),
		num(api.MaxInt),
		{Kind: api.MaxInt, Num: -9},
	}
}
