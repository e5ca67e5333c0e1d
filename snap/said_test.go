package snap_test

import (
	"math/rand/v2"
	"regexp"
	"slices"
	"strings"
	"testing"

	"cabochon/api"
	"cabochon/apply"
	"cabochon/graph"
	"cabochon/schema"
	"cabochon/snap"
	"cabochon/trans"
)

// What the chapter says, line by line; an error is thrown.

// said is what call answers, or a zero one and what it throws.
func said[T any](call func() T) (told T, err api.Errno) {
	defer func() {
		switch x := recover().(type) {
		case nil:
		case api.Errno:
			var none T
			told, err = none, x
		default:
			panic(x)
		}
	}()
	return call(), api.OK
}

func throwIf(is bool, err api.Errno) {
	if is {
		panic(err)
	}
}

// must is x, if there is no error.
func must[T any](x T, err api.Errno) T {
	throwIf(err != api.OK, err)
	return x
}

var aName = regexp.MustCompile(`^[a-z][a-z0-9_]{0,15}$`)

// saidRight is what is said of a right snapshot.
func saidRight(s api.Snap) bool {
	if !graph.Right(s.Reg) || len(s.Files) > 16 {
		return false
	}
	var names []string
	for _, f := range s.Files {
		if !aName.MatchString(f.Name) || f.Schema < 0 || f.Schema >= len(s.Reg.Schemas) || !trans.Whole(s.Reg, f.Schema, f.State) {
			return false
		}
		names = append(names, f.Name)
	}
	return slices.Equal(names, slices.Compact(slices.Sorted(slices.Values(names))))
}

// saidFile is the place of the file of that name, or -1.
func saidFile(s api.Snap, name string) int {
	return slices.IndexFunc(s.Files, func(f api.File) bool { return f.Name == name })
}

// saidSchema is the place of the schema of that name, which must be there.
func saidSchema(s api.Snap, name string) int {
	k := slices.IndexFunc(s.Reg.Schemas, func(n api.Named) bool { return n.Name == name })
	throwIf(k < 0, api.ErrNone)
	return k
}

// saidWith is s, in which f stands at its place.
func saidWith(s api.Snap, f api.File) api.Snap {
	l := []api.File{f}
	for _, other := range s.Files {
		if other.Name != f.Name {
			l = append(l, other)
		}
	}
	slices.SortFunc(l, func(a, b api.File) int {
		if a.Name < b.Name {
			return -1
		}
		return 1
	})
	return api.Snap{Reg: s.Reg, Files: l}
}

// saidWrite is what is said of Write: at each place at which both leave out something, what was left out takes the place of what Start tells.
func saidWrite(s api.Snap, name, schema string, d api.Doc) api.Snap {
	throwIf(!aName.MatchString(name), api.ErrArg)
	k, i := saidSchema(s, schema), saidFile(s, name)
	throwIf(i < 0 && len(s.Files) == 16, api.ErrFull)
	made := must(trans.Start(s.Reg, k, d))
	if i >= 0 && slices.Contains(graph.Component(s.Reg, k), s.Files[i].Schema) {
		was := must(trans.Go(s.Reg, s.Files[i].Schema, k, s.Files[i].State))
		for _, x := range was.Res {
			if apply.Find(made.Res, x.Edge, x.Step, x.At) >= 0 {
				made.Res = apply.Put(made.Res, x)
			}
		}
		made = must(trans.Fill(s.Reg, k, made))
	}
	return saidWith(s, api.File{Name: name, Schema: k, State: made})
}

// saidRead is what is said of Read.
func saidRead(s api.Snap, name, schema string) api.Doc {
	throwIf(!saidRight(s), api.ErrArg)
	i := saidFile(s, name)
	throwIf(i < 0, api.ErrNone)
	return must(trans.Go(s.Reg, s.Files[i].Schema, saidSchema(s, schema), s.Files[i].State)).Doc
}

// saidDone is what is said of the call of o.
func saidDone(s api.Snap, o api.Op) api.Snap {
	throwIf(!saidRight(s), api.ErrArg)
	i := saidFile(s, o.Name)
	made := api.Snap{Reg: s.Reg}
	switch o.Do {
	case api.OpWrite:
		return saidWrite(s, o.Name, o.Schema, o.Doc)
	case api.OpDrop:
		throwIf(i < 0, api.ErrNone)
		made.Files = slices.Concat(s.Files[:i], s.Files[i+1:])
	case api.OpDeclare:
		made.Reg, made.Files = must(graph.AddSchema(s.Reg, o.Schema, o.Type)), s.Files
	case api.OpJoin:
		made.Reg = must(graph.AddJoin(s.Reg, o.Schema, o.To, o.Lens))
		for _, f := range s.Files {
			made.Files = append(made.Files, api.File{Name: f.Name, Schema: f.Schema, State: must(trans.Fill(made.Reg, f.Schema, f.State))})
		}
	case api.OpMigrate:
		throwIf(i < 0, api.ErrNone)
		k := saidSchema(s, o.Schema)
		return saidWith(s, api.File{Name: o.Name, Schema: k, State: must(trans.Go(s.Reg, s.Files[i].Schema, k, s.Files[i].State))})
	}
	return made
}

// wantSaid is what the call of o tells of s, once it, and Read, are held to what is said of them.
func wantSaid(t *testing.T, s api.Snap, o api.Op) (api.Snap, api.Errno) {
	t.Helper()
	wanted, wantedErr := said(func() api.Snap { return saidDone(s, o) })
	got, err := done(s, o)
	if err != wantedErr || show(got) != show(wanted) {
		t.Errorf("%v, not %v: %s, not %s: %s of %s", err, wantedErr, show(got), show(wanted), show(o), show(s))
	}
	d, readErr := said(func() api.Doc { return saidRead(s, o.Name, o.Schema) })
	wantBoth(t, "Read", d, readErr)(snap.Read(s, o.Name, o.Schema))
	return got, err
}

// wantSaidRight is whether s is right, once Right, and Find of that name, are held to what is said of them.
func wantSaidRight(t *testing.T, s api.Snap, name string) bool {
	t.Helper()
	right, i := saidRight(s), saidFile(s, name)
	if !right {
		i = -1
	}
	got, at := snap.Right(s), snap.Find(s, name)
	if got != right || at != i {
		t.Errorf("right: %v, not %v; %s at %d, not %d: %s", got, right, name, at, i, show(s))
	}
	return got
}

func TestP13_1To4AnyOps(t *testing.T) {
	t.Parallel()
	r := chance(1, 2)
	type came struct {
		do  int
		err api.Errno
	}
	told := map[came]int{}
	for _, s := range append(snaps(3, 110), make([]api.Snap, 20)...) {
		m := maker{r: r}
		for range 12 {
			o := m.next(s)
			next, err := wantSaid(t, s, o)
			told[came{o.Do, err}]++
			if err == api.OK {
				s = next
			}
		}
	}
	for x, n := range map[came]int{
		{api.OpWrite, api.OK}: 100, {api.OpWrite, api.ErrArg}: 10, {api.OpWrite, api.ErrNone}: 10, {api.OpWrite, api.ErrType}: 10,
		{api.OpDrop, api.OK}: 20, {api.OpDrop, api.ErrNone}: 10,
		{api.OpDeclare, api.OK}: 50, {api.OpDeclare, api.ErrArg}: 10, {api.OpDeclare, api.ErrTwice}: 10,
		{api.OpJoin, api.OK}: 20, {api.OpJoin, api.ErrNone}: 5, {api.OpJoin, api.ErrCycle}: 10, {api.OpJoin, api.ErrType}: 2, {api.OpJoin, api.ErrMiss}: 2,
		{api.OpMigrate, api.OK}: 50, {api.OpMigrate, api.ErrNone}: 10, {api.OpMigrate, api.ErrNoPath}: 10,
	} {
		if told[x] < n {
			t.Errorf("op %d: %v came up %d times", x.do, x.err, told[x])
		}
	}
}

func TestP13_1To4AnyWrongOnes(t *testing.T) {
	t.Parallel()
	r := chance(5, 6)
	right := map[bool]int{}
	for _, whole := range snaps(7, 100) {
		for range 5 {
			s := messed(r, whole)
			m := maker{r: r}
			o := m.next(s)
			right[wantSaidRight(t, s, o.Name)]++
			wantSaid(t, s, o)
		}
	}
	if right[true] < 30 || right[false] < 200 {
		t.Errorf("%v", right)
	}
}

// What was left out of a file is kept by chance, too: as it was, or more, or less.
func TestP13_1KeptOfAny(t *testing.T) {
	r := chance(11, 12)
	for _, s := range snaps(13, 60) {
		for _, f := range s.Files {
			for range 4 {
				l, places := messedState(r, f.State).Res, messedState(r, messedState(r, f.State)).Res
				var wanted []api.Res
				for _, x := range l {
					if apply.Find(places, x.Edge, x.Step, x.At) >= 0 {
						wanted = append(wanted, x)
					}
				}
				want(t, "kept", snap.Kept(l, places), wanted)
			}
		}
	}
}

// Files that are near to the limits, at which much is too much.
func TestP13_2To4AnyOpsAtTheLimits(t *testing.T) {
	t.Parallel()
	r := chance(15, 16)
	told := map[api.Errno]int{}
	for range 25 {
		s, have := laden(r)
		for range 16 {
			from, to := r.IntN(len(have)), r.IntN(len(have))
			o := api.Op{Do: any1(r, []int{api.OpWrite, api.OpWrite, api.OpWrite, api.OpJoin, api.OpMigrate}), Name: any1(r, fileNames[:3]), Schema: name(from), To: name(to)}
			o.Doc = rec("d", dict(60+r.IntN(120), schema.Least(s.Reg.Schemas[from].Type.Fields[0].Type.Of[0])))
			o.Lens = lenses(between(have[from], have[to]))
			next, err := wantSaid(t, s, o)
			told[err]++
			if err == api.OK {
				if s = next; !snap.Right(s) {
					t.Errorf("not right: %s", short(show(s)))
				}
			}
		}
	}
	for _, err := range []api.Errno{api.OK, api.ErrArg, api.ErrFull} {
		if told[err] < 5 {
			t.Errorf("%v came up %d times", err, told[err])
		}
	}
}

// laden is a few schemas of a dictionary of records that have some of three fields, none of them joined, and which ones they have.
func laden(r *rand.Rand) (api.Snap, []string) {
	var s api.Snap
	var have []string
	for k := range 3 + r.IntN(3) {
		have = append(have, any1(r, []string{"", "a: bool", "b: bool", "a: bool, b: bool", "a: bool, b: bool, c: bool"}))
		s = declared(s, name(k), "{d: dict (0 .. 512) of {"+have[k]+"}}")
	}
	return s, have
}

// between is the lens from records that have those fields to others.
func between(from, to string) string {
	l := ""
	for _, f := range []string{"a: bool", "b: bool", "c: bool"} {
		switch had, has := strings.Contains(from, f), strings.Contains(to, f); {
		case had && !has:
			l += "remove " + f + " = true;"
		case has && !had:
			l += "add " + f + " = true;"
		}
	}
	return "map d {" + l + "};"
}
