package lens_test

import (
	"maps"
	"math/rand/v2"
	"slices"
	"testing"

	"cabochon/api"
	"cabochon/doc"
	"cabochon/lens"
	"cabochon/schema"
	"cabochon/valid"
)

// fieldsOf is the fields of a record by their names; none of other types.
func fieldsOf(t api.Type) map[string]api.Field {
	fields := map[string]api.Field{}
	for _, f := range t.Fields {
		fields[f.Name] = f
	}
	return fields
}

// recOf is the record of these fields.
func recOf(fields map[string]api.Field) api.Type {
	t := api.Type{Kind: api.TRec}
	for _, name := range slices.Sorted(maps.Keys(fields)) {
		f := fields[name]
		f.Name = name
		t.Fields = append(t.Fields, f)
	}
	return t
}

// refusals is the first error that was told of a step.
type refusals struct{ err api.Errno }

func (r *refusals) tell(err api.Errno, is bool) {
	if r.err == api.OK && is {
		r.err = err
	}
}

// said is what the chapter says of a step at a record, line by line.
func said(t api.Type, s api.Lens) (api.Type, api.Errno) {
	var r refusals
	fields := fieldsOf(t)
	a, isA := fields[s.A]
	r.tell(api.ErrArg, s.Kind < api.LRename || s.Kind > api.LMap)
	if s.Kind == api.LAdd {
		r.tell(api.ErrArg, !doc.Name(s.A))
		r.tell(api.ErrTwice, isA)
	} else {
		r.tell(api.ErrMiss, !isA)
		r.tell(api.ErrType, a.Optional && s.Kind != api.LRename)
	}
	switch s.Kind {
	case api.LRename, api.LAdd, api.LRemove, api.LHoist, api.LPlunge:
		saidOfFields(&r, fields, a, s)
	default:
		fields[s.A] = api.Field{Type: saidOfType(&r, a.Type, s)}
	}
	made := recOf(fields)
	r.tell(api.ErrFull, !schema.Right(made))
	if r.err != api.OK {
		return api.Type{}, r.err
	}
	return made, api.OK
}

// saidOfFields is said of steps by which fields come, go or move; they do so in fields.
func saidOfFields(r *refusals, fields map[string]api.Field, a api.Field, s api.Lens) {
	b, isB := fields[s.B]
	within := fieldsOf(a.Type)
	inner, isInner := within[s.B]
	switch s.Kind {
	case api.LRename:
		r.tell(api.ErrArg, !doc.Name(s.B))
		r.tell(api.ErrTwice, isB)
		delete(fields, s.A)
		fields[s.B] = a
	case api.LAdd:
		r.tell(api.ErrType, !scalar(s.Type))
		r.tell(api.ErrRange, !valid.Is(s.Type, s.Doc))
		fields[s.A] = api.Field{Type: s.Type}
	case api.LRemove:
		r.tell(api.ErrType, show(a.Type) != show(s.Type) || !scalar(s.Type))
		r.tell(api.ErrRange, !valid.Is(s.Type, s.Doc))
		delete(fields, s.A)
	case api.LHoist:
		r.tell(api.ErrType, a.Type.Kind != api.TRec)
		r.tell(api.ErrMiss, !isInner)
		r.tell(api.ErrType, inner.Optional)
		r.tell(api.ErrTwice, isB)
		delete(within, s.B)
		fields[s.A] = api.Field{Type: recOf(within)}
		fields[s.B] = inner
	case api.LPlunge:
		r.tell(api.ErrMiss, !isB)
		r.tell(api.ErrType, b.Optional || a.Type.Kind != api.TRec || s.A == s.B)
		r.tell(api.ErrTwice, isInner)
		within[s.B] = b
		fields[s.A] = api.Field{Type: recOf(within)}
		delete(fields, s.B)
	}
}

// saidOfType is said of steps by which the field A is of another type.
func saidOfType(r *refusals, a api.Type, s api.Lens) api.Type {
	switch s.Kind {
	case api.LWrap:
		r.tell(api.ErrType, !scalar(a))
		return api.Type{Kind: api.TList, Lo: 1, Hi: 1, Of: []api.Type{a}}
	case api.LHead:
		r.tell(api.ErrType, a.Kind != api.TList || a.Lo != 1 || a.Hi != 1)
		if r.err == api.OK {
			a = a.Of[0]
		}
		r.tell(api.ErrType, !scalar(a))
	case api.LConvert:
		seen := map[int]int{}
		for _, n := range slices.Concat(flat(s.Swaps)...) {
			seen[n]++
		}
		r.tell(api.ErrType, a.Kind != api.TInt)
		r.tell(api.ErrArg, len(s.Swaps) < 1 || len(s.Swaps) > 32)
		for _, times := range seen {
			r.tell(api.ErrArg, times > 1)
		}
		for n := range seen {
			r.tell(api.ErrRange, !valid.Is(a, doc.Int(n)))
		}
	case api.LIn:
		return saidWithin(r, a, s.Subs)
	case api.LMap:
		r.tell(api.ErrType, a.Kind != api.TDict)
		if r.err == api.OK {
			a.Of = []api.Type{saidWithin(r, a.Of[0], s.Subs)}
		}
	}
	return a
}

func saidWithin(r *refusals, a api.Type, subs []api.Lens) api.Type {
	r.tell(api.ErrType, a.Kind != api.TRec)
	if r.err == api.OK {
		a, _, r.err = saidOfAll(a, subs)
	}
	return a
}

// saidOfAll is said of steps one behind the other, with the place of the one that may not be.
func saidOfAll(t api.Type, l []api.Lens) (api.Type, int, api.Errno) {
	for i, s := range l {
		made, err := said(t, s)
		if err != api.OK {
			return api.Type{}, i, err
		}
		t = made
	}
	return t, len(l), api.OK
}

func scalar(t api.Type) bool { return t.Kind >= api.TInt && t.Kind <= api.TEnum && schema.Right(t) }

func flat(l [][2]int) [][]int {
	var rows [][]int
	for _, pair := range l {
		rows = append(rows, pair[:])
	}
	return rows
}

// wantSaid holds Target to what the chapter says of all steps.
func wantSaid(t *testing.T, x api.Type, l []api.Lens) api.Errno {
	t.Helper()
	got, at, err := lens.Target(x, l)
	made, place, wanted := saidOfAll(x, l)
	if at != place || err != wanted || show(got) != show(made) {
		t.Errorf("%s by %s: %s, %v at %d, not %s, %v at %d", short(show(x)), short(show(l)), short(show(got)), err, at, short(show(made)), wanted, place)
	}
	return wanted
}

// Each kind of step, at each two of many names, with each of what it may have beside them.
func TestP7_2EachStep(t *testing.T) {
	x := typ(`{a: int (3 .. 9), b: bool, d: dict (0 .. 9) of {a: bool, o?: bool}, e: dict (0 .. 9) of bool, g: list (1 .. 1) of bool, h: list (0 .. 1) of bool, o?: int (3 .. 9), q?: {a: int (3 .. 9)}, r: {a: bool, c: {}, o?: bool, r: bool}, s: {b: {}, d: bool}}`)
	var bare []api.Lens
	for _, of := range []api.Type{{}, typ("bool"), typ("int (3 .. 9)"), typ("int (3 .. 10)"), typ("{}"), {Kind: api.TInt, Lo: 9, Hi: 3}, x.Fields[4].Type} {
		for _, d := range []api.Doc{{}, val("true"), val("3"), val("10"), val("[true]"), {Kind: api.DInt, Num: 3, Str: "x"}} {
			bare = append(bare, api.Lens{Type: of, Doc: d})
		}
	}
	for _, swaps := range [][][2]int{{{3, 4}}, {{3, 4}, {5, 9}}, {{3, 3}}, {{3, 4}, {4, 5}}, {{2, 3}}, {{3, 10}}, {{2, 2}}, pairs(33)} {
		bare = append(bare, api.Lens{Swaps: swaps})
	}
	for _, subs := range [][]api.Lens{steps(rename("a", "z")), steps(rename("o", "z"), rename("z", "o")), steps(wrap("a")), steps(remove("a", "bool", "true")), steps(wrap("o")), steps(api.Lens{}), steps(rename("a", "r")), steps(wrap("a"), wrap("a"))} {
		bare = append(bare, api.Lens{Subs: subs})
	}
	all := []string{"", "A", "a", "b", "c", "d", "e", "g", "h", "o", "q", "r", "s", "z"}
	told := map[api.Errno]int{}
	for kind := -1; kind < 13; kind++ {
		for _, s := range bare {
			for _, a := range all {
				for _, b := range all {
					s.Kind, s.A, s.B = kind, a, b
					told[wantSaid(t, x, steps(s))]++
				}
			}
		}
	}
	for _, err := range []api.Errno{api.OK, api.ErrArg, api.ErrTwice, api.ErrType, api.ErrRange, api.ErrMiss} {
		if told[err] < 500 {
			t.Errorf("%v came up %d times", err, told[err])
		}
	}
}

// What comes by chance, the same at each run.

var someNames = []string{"a", "b", "c", "d", "r"}

func any1[T any](r *rand.Rand, l []T) T { return l[r.IntN(len(l))] }

// randomType is a right type, at most so deep, of few names and numbers.
func randomType(r *rand.Rand, depth int) api.Type {
	kind := any1(r, []int{api.TRec, api.TRec, api.TRec, api.TDict, api.TDict, api.TList, api.TInt, api.TBool, api.TBytes, api.TEnum})
	if depth == 1 {
		kind = api.TInt + r.IntN(4)
	}
	switch kind {
	case api.TRec:
		return randomRec(r, depth)
	case api.TDict:
		return api.Type{Kind: kind, Lo: r.IntN(2), Hi: 1 + r.IntN(3), Of: []api.Type{randomType(r, depth-1)}}
	case api.TList:
		return api.Type{Kind: kind, Lo: any1(r, []int{0, 1, 1, 1}), Hi: any1(r, []int{1, 1, 1, 2}), Of: []api.Type{randomType(r, 1+r.IntN(depth-1))}}
	case api.TInt:
		return api.Type{Kind: kind, Lo: r.IntN(2), Hi: 3 + r.IntN(3)}
	case api.TBytes:
		return api.Type{Kind: kind, Lo: r.IntN(2), Hi: 1 + r.IntN(2)}
	case api.TEnum:
		return api.Type{Kind: kind, Names: any1(r, [][]string{{"x"}, {"x", "y"}, {"", "x"}})}
	}
	return typ("bool")
}

func randomRec(r *rand.Rand, depth int) api.Type {
	t := api.Type{Kind: api.TRec}
	for _, name := range someNames {
		if depth > 1 && r.IntN(4) > 0 {
			t.Fields = append(t.Fields, api.Field{Name: name, Optional: r.IntN(6) == 0, Type: randomType(r, depth-1)})
		}
	}
	return t
}

// suited is the kinds of steps that may be done at a field of that type.
func suited(t api.Type) []int {
	switch t.Kind {
	case api.TRec:
		return []int{api.LHoist, api.LHoist, api.LPlunge, api.LPlunge, api.LIn, api.LIn, api.LRename}
	case api.TDict:
		return []int{api.LMap, api.LMap, api.LMap, api.LRename}
	case api.TList:
		return []int{api.LHead, api.LHead, api.LRename}
	case api.TInt:
		return []int{api.LConvert, api.LConvert, api.LWrap, api.LRemove, api.LRename}
	}
	return []int{api.LWrap, api.LRemove, api.LRename, api.LAdd, api.LAdd}
}

// randomStep is a step that may do something at the record t, or nearly: each of its parts is wrong at times.
func randomStep(r *rand.Rand, t api.Type, depth int) api.Lens {
	name := func() string {
		if len(t.Fields) > 0 && r.IntN(10) > 0 {
			return any1(r, t.Fields).Name
		}
		return any1(r, append(someNames, "e", "e0", "", "B"))
	}
	s := api.Lens{Kind: r.IntN(12), A: name(), B: any1(r, append(someNames, "e", "f", "B")), Type: randomType(r, 1+r.IntN(2)), Swaps: any1(r, [][][2]int{{{1, 2}}, {{2, 3}, {1, 0}}, {{1, 1}}, {{4, 5}, {1, 4}}, nil})}
	a := fieldsOf(t)[s.A].Type
	if r.IntN(8) > 0 {
		s.Kind = any1(r, suited(a))
	}
	switch {
	case s.Kind == api.LAdd && r.IntN(8) > 0:
		s.A = any1(r, append(someNames, "e", "f", "g"))
	case s.Kind == api.LHoist && len(a.Fields) > 0:
		s.B = any1(r, a.Fields).Name
	case s.Kind == api.LPlunge:
		s.B = name()
	case s.Kind == api.LRemove && r.IntN(8) > 0:
		s.Type = a
	case s.Kind == api.LMap && a.Kind == api.TDict:
		a = a.Of[0]
	}
	s.Doc = any1(r, []api.Doc{schema.Least(s.Type), schema.Least(s.Type), schema.Least(s.Type), val("true"), val("2"), val(`"x"`), {}})
	if depth > 0 && (s.Kind == api.LIn || s.Kind == api.LMap || r.IntN(10) == 0) {
		s.Subs = randomLens(r, a, r.IntN(3), depth-1)
	}
	return s
}

// randomLens is so many steps, most of which may be, or are too much, one behind the other.
func randomLens(r *rand.Rand, t api.Type, n, depth int) []api.Lens {
	var l []api.Lens
	for range n {
		var s api.Lens
		var made api.Type
		err := api.ErrArg
		for tries := 8; tries > 0 && err != api.OK && err != api.ErrFull; tries-- {
			s = randomStep(r, t, depth)
			made, err = said(t, s)
			if r.IntN(12) == 0 {
				break
			}
		}
		l = append(l, s)
		if err == api.OK {
			t = made
		}
	}
	return l
}

// made is a record and a lens.
type made struct {
	t api.Type
	l []api.Lens
}

// randoms is so many of them, of few enough parts and steps.
func randoms(n int) []made {
	r := rand.New(rand.NewPCG(1, 2))
	var all []made
	for len(all) < n {
		t := randomRec(r, 2+r.IntN(4))
		l := randomLens(r, t, r.IntN(7), 3)
		if schema.Right(t) && lens.Size(l) <= api.MaxSteps {
			all = append(all, made{t, l})
		}
	}
	return all
}

func TestP7_2AnyLens(t *testing.T) {
	told, kinds := map[api.Errno]int{}, map[int]int{}
	for _, x := range randoms(10000) {
		err := wantSaid(t, x.t, x.l)
		told[err]++
		for _, s := range x.l {
			if err == api.OK {
				kinds[s.Kind]++
			}
		}
	}
	for _, err := range []api.Errno{api.OK, api.ErrArg, api.ErrTwice, api.ErrType, api.ErrRange, api.ErrMiss} {
		if told[err] < 100 {
			t.Errorf("%v came up %d times", err, told[err])
		}
	}
	for kind := api.LRename; kind <= api.LMap; kind++ {
		if kinds[kind] < 100 {
			t.Errorf("%d of kind %d were done", kinds[kind], kind)
		}
	}
}

// Records that are near to the limits, at which much is too much.
func TestP7_2AnyLensAtTheLimits(t *testing.T) {
	r := rand.New(rand.NewPCG(3, 4))
	full := 0
	for range 1500 {
		x := parted(api.MaxTypes - r.IntN(3))
		if r.IntN(2) == 0 {
			x = wide(api.MaxFields-3-r.IntN(2), field("r", wide(api.MaxFields-r.IntN(2))), field("s", typ("{x: bool, y: int (1 .. 3)}")), field("t", typ("int (1 .. 3)")))
		}
		if wantSaid(t, x, randomLens(r, x, 1+r.IntN(4), 2)) == api.ErrFull {
			full++
		}
	}
	if full < 100 {
		t.Errorf("%d were too much", full)
	}
}
