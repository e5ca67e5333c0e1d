package merge_test

import (
	"strings"
	"testing"

	"cabochon/api"
	"cabochon/merge"
)

// asked is three states, and what they come to at the schema k of a registry.
type asked struct {
	r      api.Registry
	k      int
	s      [3]api.State
	wanted api.Outcome
}

// three holds Three to it, with spare room behind all rows, too.
func (x asked) three(t *testing.T, what string) {
	t.Helper()
	want(t, what, merge.Three(x.r, x.k, x.s[0], x.s[1], x.s[2]), x.wanted)
	x.r, x.s = roomy(x.r), roomy(x.s)
	want(t, what+", with spare room", merge.Three(x.r, x.k, x.s[0], x.s[1], x.s[2]), x.wanted)
}

func TestP12_1Documents(t *testing.T) {
	two, opt := one("{a: int (0 .. 9), b: int (0 .. 9)}"), one("{a?: int (0 .. 9), b?: int (0 .. 9)}")
	for what, x := range map[string]asked{
		"one side each":                  {two, 0, states("{a = 1, b = 1}", "{a = 2, b = 1}", "{a = 1, b = 3}"), merged("{a = 2, b = 3}")},
		"both, unlike":                   {one("{a: int (0 .. 9)}"), 0, states("{a = 1}", "{a = 2}", "{a = 3}"), conflicts(clash("a"))},
		"none":                           {two, 0, states("{a = 1, b = 1}", "{a = 1, b = 1}", "{a = 1, b = 1}"), merged("{a = 1, b = 1}")},
		"left":                           {two, 0, states("{a = 1, b = 1}", "{a = 2, b = 3}", "{a = 1, b = 1}"), merged("{a = 2, b = 3}")},
		"right":                          {two, 0, states("{a = 1, b = 1}", "{a = 1, b = 1}", "{a = 2, b = 3}"), merged("{a = 2, b = 3}")},
		"both, alike":                    {two, 0, states("{a = 1, b = 1}", "{a = 2, b = 1}", "{a = 2, b = 1}"), merged("{a = 2, b = 1}")},
		"both, alike, and one side more": {two, 0, states("{a = 1, b = 1}", "{a = 2, b = 1}", "{a = 2, b = 7}"), merged("{a = 2, b = 7}")},
		"a clash, and one side more":     {two, 0, states("{a = 1, b = 1}", "{a = 2, b = 7}", "{a = 3, b = 1}"), conflicts(clash("a"))},
		"two clashes":                    {two, 0, states("{a = 1, b = 1}", "{a = 2, b = 2}", "{a = 3, b = 3}"), conflicts(clash("a"), clash("b"))},
		"made by left":                   {opt, 0, states("{}", "{a = 2}", "{}"), merged("{a = 2}")},
		"made by right":                  {opt, 0, states("{}", "{}", "{a = 2}"), merged("{a = 2}")},
		"made by both, alike":            {opt, 0, states("{}", "{a = 2}", "{a = 2}"), merged("{a = 2}")},
		"made by both, unlike":           {opt, 0, states("{}", "{a = 2}", "{a = 3}"), conflicts(clash("a"))},
		"made by both, apart":            {opt, 0, states("{}", "{a = 2}", "{b = 3}"), merged("{a = 2, b = 3}")},
		"dropped by left":                {opt, 0, states("{a = 2}", "{}", "{a = 2}"), merged("{}")},
		"dropped by right":               {opt, 0, states("{a = 2}", "{a = 2}", "{}"), merged("{}")},
		"dropped by both":                {opt, 0, states("{a = 2}", "{}", "{}"), merged("{}")},
		"dropped, and changed":           {opt, 0, states("{a = 2}", "{}", "{a = 3}"), conflicts(clash("a"))},
		"changed, and dropped":           {opt, 0, states("{a = 2}", "{a = 3}", "{}"), conflicts(clash("a"))},
		"dropped, and another made":      {opt, 0, states("{a = 2}", "{}", "{a = 2, b = 2}"), merged("{b = 2}")},
		"a list":                         {one("{a: list (0 .. 3) of bool}"), 0, states("{a = []}", "{a = []}", "{a = [true, true]}"), merged("{a = [true, true]}")},
		"a list, as a whole":             {one("{a: list (0 .. 3) of bool}"), 0, states("{a = [true, true]}", "{a = [true, false]}", "{a = [false, true]}"), conflicts(clash("a"))},
		"a list of records, as a whole":  {one("{a: list (0 .. 3) of {b: bool}}"), 0, states("{a = [{b = true}]}", "{a = [{b = false}]}", "{a = []}"), conflicts(clash("a"))},
		"a number and a yes":             {one("{a: bool}"), 0, states("{a = 1}", "{a = true}", "{a = 1}"), merged("{a = true}")},
		"byte strings":                   {one("{a: bytes (0 .. 9)}"), 0, states(`{a = "x"}`, `{a = "x"}`, `{a = "\xff"}`), merged(`{a = "\xff"}`)},
	} {
		x.three(t, what)
	}
}

func TestP12_1DocumentsInDocuments(t *testing.T) {
	r := one("{d: dict (0 .. 3) of {a?: int (0 .. 9), b?: int (0 .. 9)}, r?: {a?: bool, e?: {}}}")
	for what, x := range map[string]struct {
		base, left, right string
		wanted            api.Outcome
	}{
		"entries of both":               {"{d = <>}", `{d = <"x": {a = 1}>}`, `{d = <"w": {}, "y": {}>}`, merged(`{d = <"w": {}, "x": {a = 1}, "y": {}>}`)},
		"one entry of both":             {"{d = <>}", `{d = <"x": {a = 1}>}`, `{d = <"x": {b = 2}>}`, merged(`{d = <"x": {a = 1, b = 2}>}`)},
		"one entry of both, unlike":     {"{d = <>}", `{d = <"x": {a = 1, b = 2}>}`, `{d = <"x": {a = 2, b = 2}>}`, conflicts(clash("d", "x", "a"))},
		"an entry dropped":              {`{d = <"x": {a = 1}, "y": {}>}`, `{d = <"x": {a = 1}, "y": {}>}`, `{d = <"y": {}>}`, merged(`{d = <"y": {}>}`)},
		"dropped, and changed":          {`{d = <"x": {a = 1}>}`, "{d = <>}", `{d = <"x": {a = 2}>}`, conflicts(clash("d", "x", "a"))},
		"dropped, and emptied":          {`{d = <"x": {a = 1}>}`, "{d = <>}", `{d = <"x": {}>}`, merged("{d = <>}")},
		"dropped, and something made":   {`{d = <"x": {a = 1}>}`, "{d = <>}", `{d = <"x": {a = 1, b = 1}>}`, invalid},
		"something made, and dropped":   {`{d = <"x": {}>}`, `{d = <"x": {b = 1}>}`, "{d = <>}", invalid},
		"a record dropped, and made":    {"{d = <>, r = {}}", "{d = <>}", "{d = <>, r = {e = {}}}", invalid},
		"a record made":                 {"{d = <>}", "{d = <>, r = {e = {}}}", "{d = <>, r = {a = true}}", merged("{d = <>, r = {a = true, e = {}}}")},
		"too many entries":              {`{d = <"x": {}>}`, `{d = <"w": {}, "x": {}>}`, `{d = <"x": {}, "y": {}, "z": {}>}`, invalid},
		"too many, and a clash":         {`{d = <"x": {a = 1}>}`, `{d = <"w": {}, "x": {a = 2}>}`, `{d = <"x": {a = 3}, "y": {}, "z": {}>}`, conflicts(clash("d", "x", "a"))},
		"clashes by rising paths":       {"{d = <>}", `{d = <"": {a = 1, b = 1}, "x": {a = 1}, "x\x00": {a = 1}>, r = {a = true}}`, `{d = <"": {a = 2, b = 2}, "x": {a = 2}, "x\x00": {a = 2}>, r = {a = false}}`, conflicts(clash("d", "", "a"), clash("d", "", "b"), clash("d", "x", "a"), clash("d", "x\x00", "a"), clash("r", "a"))},
		"a document of no such type":    {"{d = <>}", "{d = <>, x = 1}", "{d = <>}", invalid},
		"of no such type, all":          {"{}", "{}", "{}", invalid},
		"of no such type, but not so":   {"5", "{d = <>}", "5", merged("{d = <>}")},
		"of no such type, no one knows": {"5", "{d = <>}", "6", conflicts(clash())},
		"no records":                    {"5", "5", "6", invalid},
		"a dictionary and a record":     {"{d = {}}", "{d = <>}", "{d = {}}", merged("{d = <>}")},
		"of three kinds":                {`{d = <>}`, `{d = {}}`, `{d = []}`, conflicts(clash("d"))},
		"of three kinds, with kids":     {`{d = <"x": {}>}`, `{d = {x = {}}}`, `{d = [{}]}`, conflicts(clash("d"))},
		"kids of another kind":          {`{d = <"x": {}>}`, `{d = <"x": {a = 1}>}`, "{d = 5}", invalid},
		"kids of another kind, alike":   {`{d = <>}`, `{d = <"x": {a = 1}>}`, "{d = {x = {a = 1}}}", invalid},
		"another kind, with its kids":   {`{d = {x = {}}}`, `{d = {x = {}}}`, `{d = <"x": {}>}`, merged(`{d = <"x": {}>}`)},
		"a kid that no one has a home":  {`{d = <"x": {}>}`, `{d = <"x": {b = 4}>}`, `{d = <>}`, invalid},
	} {
		asked{r, 0, states(x.base, x.left, x.right), x.wanted}.three(t, what)
	}
}

func TestP12_1LeftOut(t *testing.T) {
	no, yes := left(0, place(0), "false"), left(0, place(0), "true")
	for what, x := range map[string]asked{
		"none":             {some(), 0, [3]api.State{state("{a = 1}", no), state("{a = 1}", no), state("{a = 2}", no)}, merged("{a = 2}", no)},
		"left":             {some(), 0, [3]api.State{state("{a = 1}", no), state("{a = 1}", yes), state("{a = 2}", no)}, merged("{a = 2}", yes)},
		"right":            {some(), 0, [3]api.State{state("{a = 1}", no), state("{a = 1}", no), state("{a = 1}", yes)}, merged("{a = 1}", yes)},
		"both, alike":      {some(), 0, [3]api.State{state("{a = 1}", no), state("{a = 1}", yes), state("{a = 1}", yes)}, merged("{a = 1}", yes)},
		"both, unlike":     {some(), 0, [3]api.State{state("{a = 1}"), state("{a = 1}", yes), state("{a = 1}", no)}, conflicts(clashOut(0, place(0)))},
		"dropped, changed": {some(), 0, [3]api.State{state("{a = 1}", no), state("{a = 1}"), state("{a = 1}", yes)}, conflicts(clashOut(0, place(0)))},
		"made":             {some(), 0, [3]api.State{state("{a = 1}"), state("{a = 1}", yes), state("{a = 1}")}, merged("{a = 1}", yes)},
		"made by both":     {some(), 0, [3]api.State{state("{a = 1}"), state("{a = 1}", yes), state("{a = 1}", yes)}, merged("{a = 1}", yes)},
		"missing":          {some(), 0, states("{a = 1}", "{a = 1}", "{a = 1}"), invalid},
		"dropped":          {some(), 0, [3]api.State{state("{a = 1}", no), state("{a = 1}"), state("{a = 1}", no)}, invalid},
		"too much":         {some(), 0, [3]api.State{state("{a = 1}", no), state("{a = 1}", no, left(0, place(1), "true")), state("{a = 1}", no)}, invalid},
		"too much, ended":  {some(), 0, [3]api.State{state("{a = 1}", no, left(0, place(1), "true")), state("{a = 1}", no, left(0, place(1), "true")), state("{a = 1}", no)}, merged("{a = 1}", no)},
		"of no such type":  {some(), 0, [3]api.State{state("{a = 1}", no), state("{a = 1}", left(0, place(0), "7")), state("{a = 1}", no)}, invalid},
		"and of no type":   {some(), 0, [3]api.State{state("{a = 1}", left(0, place(0), "[]")), state("{a = 1}", yes), state("{a = 1}", left(0, place(0), "[]"))}, merged("{a = 1}", yes)},
		"a record, whole":  {some(), 0, [3]api.State{state("{a = 1}", left(0, place(0), "{x = 1}")), state("{a = 1}", left(0, place(0), "{x = 2}")), state("{a = 1}", left(0, place(0), "{x = 1, y = 2}"))}, conflicts(clashOut(0, place(0)))},
		"another edge":     {some(), 5, [3]api.State{state("{a = 1}"), state("{a = 1}", no), state("{a = 2}")}, invalid},
		"alone":            {some(), 5, states("{a = 1}", "{a = 1}", "{a = 2}"), merged("{a = 2}")},
		"documents first": {some(), 0, [3]api.State{state("{a = 1}"), state("{a = 2}", no, left(7, place(), "1")), state("{a = 3}", yes, left(7, place(), "2"))},
			conflicts(clash("a"), clashOut(0, place(0)), clashOut(7, nil))},
		"a path as a place": {some(), 5, [3]api.State{state("{a = 1}"), state("{a = 2}", left(0, nil, "1", "a")), state("{a = 3}", left(0, nil, "2", "a"))},
			conflicts(clash("a"), clashOut(0, nil, "a"))},
		"a path as a place, of one": {some(), 5, [3]api.State{state("{a = 1}"), state("{a = 2}"), state("{a = 1}", left(0, nil, "2", "a"))}, invalid},
		"by rising places": {some(), 0, [3]api.State{state("{a = 1}"), state("{a = 1}", places(1)...), state("{a = 1}", places(2)...)}, conflicts(
			clashOut(-2, place(7)), clashOut(-1, nil), clashOut(0, nil), clashOut(0, nil, "b"), clashOut(0, nil, "b", "a"), clashOut(0, place(-3)), clashOut(0, place(2)), clashOut(0, place(2), "", "z"), clashOut(0, place(2), "a"),
			clashOut(0, place(2, 0)), clashOut(0, place(10), "B"), clashOut(0, place(10), "a"), clashOut(0, place(10), "a\x00"), clashOut(10, nil))},
	} {
		x.three(t, what)
	}
}

// places is what is left out, n everywhere, at places of which many are easily taken for one another's.
func places(n int) []api.Res {
	d := strings.Repeat("1", n)
	return []api.Res{
		left(-2, place(7), d), left(-1, nil, d), left(0, nil, d), left(0, nil, d, "b"), left(0, nil, d, "b", "a"), left(0, place(-3), d), left(0, place(2), d), left(0, place(2), d, "", "z"), left(0, place(2), d, "a"),
		left(0, place(2, 0), d), left(0, place(10), d, "B"), left(0, place(10), d, "a"), left(0, place(10), d, "a\x00"), left(10, nil, d),
	}
}

func TestP12_1LeftOutOfEntries(t *testing.T) {
	base := state(`{h = <"a": {port = 1}>, n = 3}`, left(0, place(0, 0), "true", "a"), left(1, place(0), `"x"`))
	off := state(`{h = <"a": {port = 1}>, n = 3}`, left(0, place(0, 0), "false", "a"), left(1, place(0), `"x"`))
	more := state(`{h = <"a": {port = 1}, "b": {port = 2}>, n = 3}`, left(0, place(0, 0), "true", "a"), left(0, place(0, 0), "false", "b"), left(1, place(0), `"y"`))
	less := state(`{h = <>, n = 4}`, left(1, place(0), `"x"`))
	other := state(`{h = <"a": {port = 9}, "b": {port = 3}>, n = 5}`, left(0, place(0, 0), "false", "a"), left(0, place(0, 0), "true", "b"), left(1, place(0), `"x"`))
	for what, x := range map[string]asked{
		"an entry more, another one changed": {hosts(), 0, [3]api.State{base, off, more}, merged(`{h = <"a": {port = 1}, "b": {port = 2}>, n = 3}`, left(0, place(0, 0), "false", "a"), left(0, place(0, 0), "false", "b"), left(1, place(0), `"y"`))},
		"an entry more, another one less":    {hosts(), 0, [3]api.State{base, less, more}, merged(`{h = <"b": {port = 2}>, n = 4}`, left(0, place(0, 0), "false", "b"), left(1, place(0), `"y"`))},
		"dropped, and changed unseen":        {hosts(), 0, [3]api.State{base, less, off}, conflicts(clashOut(0, place(0, 0), "a"))},
		"made by both":                       {hosts(), 0, [3]api.State{base, more, other}, conflicts(clash("h", "b", "port"), clashOut(0, place(0, 0), "b"))},
		"dropped, and changed":               {hosts(), 0, [3]api.State{base, other, less}, conflicts(clash("h", "a", "port"), clash("n"), clashOut(0, place(0, 0), "a"))},
	} {
		x.three(t, what)
	}
}

// An entry that one side dropped, and in which the other one made what base has not: it is not there, but what was left out of it, or in it, is.
func TestP12_1WhatHasNoHome(t *testing.T) {
	r := registry("s: {d: dict (0 .. 2) of {}}", "t: {d: dict (0 .. 2) of {b: bool}}", "0 > 1: map d {add b: bool = false;};")
	made := left(0, place(0, 0), "true", "x")
	asked{r, 0, [3]api.State{state(`{d = <"x": {}>}`), state("{d = <>}"), state(`{d = <"x": {}>}`, made)}, invalid}.three(t, "left out")
	asked{r, 1, states(`{d = <"x": {}>}`, "{d = <>}", `{d = <"x": {b = true}>}`), invalid}.three(t, "in it")
}

// What is not right is told ahead of all else, at each of the three.
func TestP12_1NotRight(t *testing.T) {
	no := left(0, place(0), "false")
	good := state("{a = 1}", no)
	other := state("{a = 2}", no)
	bad := []api.State{
		{Res: good.Res},
		{Doc: api.Doc{Kind: api.DRec, Keys: []string{"a"}}, Res: good.Res},
		{Doc: api.Doc{Kind: api.DRec, Keys: []string{"A"}, Kids: good.Doc.Kids}, Res: good.Res},
		{Doc: api.Doc{Kind: api.DRec, Num: 1, Keys: good.Doc.Keys, Kids: good.Doc.Kids}, Res: good.Res},
		{Doc: rec("a", api.Doc{}), Res: good.Res},
		{Doc: rec("a", dict(0, 511, val("1"))), Res: good.Res},
		state("{a = 1}", no, no),
		state("{a = 1}", left(0, place(1), "true"), no),
		state("{a = 1}", append([]api.Res{no}, many(1, 256, "1")...)...),
		{Doc: good.Doc, Res: []api.Res{no, {Edge: 1}}},
		{Doc: good.Doc, Res: []api.Res{no, {Edge: 1, Doc: rec("A", val("1"))}}},
	}
	for i, x := range bad {
		for side := range 3 {
			for _, s := range [][3]api.State{{good, good, good}, {good, other, state("{a = 3}", no)}, {x, x, x}} {
				s[side] = x
				asked{some(), 0, s, invalid}.three(t, "state "+name(i)+" at "+name(side))
				want(t, "picked", merge.Pick(some(), 0, s[0], s[1], s[2], []int{1, 1, 1}), invalid)
			}
		}
	}
	asked{some(), 0, [3]api.State{good, good, other}, merged("{a = 2}", no)}.three(t, "right ones")
}

func TestP12_1NoSchemaOrRegistry(t *testing.T) {
	same, clashing := states("{a = true}", "{a = true}", "{a = true}"), states("{a = true}", "{a = 1}", "{a = 2}")
	for _, s := range [][3]api.State{same, clashing} {
		for _, k := range []int{-1, 6, 7, api.MinInt, api.MaxInt} {
			asked{some(), k, s, invalid}.three(t, "no schema")
		}
		asked{api.Registry{}, 0, s, invalid}.three(t, "an empty registry")
		for i, r := range wrong() {
			asked{r, 0, s, invalid}.three(t, "registry "+name(i))
			want(t, "picked", merge.Pick(r, 0, s[0], s[1], s[2], []int{0, 0, 0}), invalid)
		}
	}
	asked{alike(12), 11, same, merged("{a = true}")}.three(t, "right ones")
	asked{alike(12), 11, clashing, conflicts(clash("a"))}.three(t, "right ones")
}
