package snap_test

import (
	"math/rand/v2"
	"slices"

	"cabochon/api"
	"cabochon/apply"
	"cabochon/doc"
	"cabochon/graph"
	"cabochon/lens"
	"cabochon/schema"
	"cabochon/snap"
	"cabochon/trans"
)

// What comes by chance, the same at each run.

func chance(a, b uint64) *rand.Rand { return rand.New(rand.NewPCG(a, b)) }

var (
	someNames = []string{"a", "b", "c", "d", "r"}
	someKeys  = []string{"k", "", "a", "k\x00", "\xff", "kk", "b"}
)

func any1[T any](r *rand.Rand, l []T) T { return l[r.IntN(len(l))] }

// randomType is a right type, at most so deep, of few names and numbers.
func randomType(r *rand.Rand, depth int) api.Type {
	kind := any1(r, []int{api.TRec, api.TRec, api.TRec, api.TDict, api.TDict, api.TList, api.TInt, api.TBool, api.TBytes, api.TEnum})
	if depth == 1 {
		kind = api.TInt + r.IntN(4)
	}
	switch kind {
	case api.TRec:
		return randomRec(r, depth)
	case api.TDict:
		return api.Type{Kind: kind, Lo: r.IntN(2), Hi: 1 + r.IntN(3), Of: []api.Type{randomType(r, depth-1)}}
	case api.TList:
		return api.Type{Kind: kind, Lo: any1(r, []int{0, 1, 1, 1}), Hi: any1(r, []int{1, 1, 1, 2}), Of: []api.Type{randomType(r, 1+r.IntN(depth-1))}}
	case api.TInt:
		return api.Type{Kind: kind, Lo: r.IntN(2), Hi: 3 + r.IntN(6)}
	case api.TBytes:
		return api.Type{Kind: kind, Lo: r.IntN(2), Hi: 2 + r.IntN(2)}
	case api.TEnum:
		return api.Type{Kind: kind, Names: any1(r, [][]string{{"x"}, {"", "x"}, {"w", "x", "y", "z"}})}
	}
	return typ("bool")
}

func randomRec(r *rand.Rand, depth int) api.Type {
	t := api.Type{Kind: api.TRec}
	for _, name := range someNames {
		if depth > 1 && r.IntN(4) > 0 {
			t.Fields = append(t.Fields, api.Field{Name: name, Optional: r.IntN(6) == 0, Type: randomType(r, depth-1)})
		}
	}
	return t
}

// randomDoc is a document of the type.
func randomDoc(r *rand.Rand, t api.Type) api.Doc {
	switch t.Kind {
	case api.TRec:
		d := api.Doc{Kind: api.DRec}
		for _, f := range t.Fields {
			if !f.Optional || r.IntN(2) == 0 {
				d.Keys = append(d.Keys, f.Name)
				d.Kids = append(d.Kids, randomDoc(r, f.Type))
			}
		}
		return d
	case api.TDict, api.TList:
		n := t.Lo + r.IntN(min(t.Hi-t.Lo, 4)+1)
		d := api.Doc{Kind: api.DList}
		for range n {
			d.Kids = append(d.Kids, randomDoc(r, t.Of[0]))
		}
		if t.Kind == api.TDict {
			d.Kind, d.Keys = api.DDict, slices.Sorted(slices.Values(someKeys[r.IntN(3):][:n]))
		}
		return d
	}
	return randomScalar(r, t)
}

func randomScalar(r *rand.Rand, t api.Type) api.Doc {
	switch t.Kind {
	case api.TInt:
		return doc.Int(t.Lo + r.IntN(t.Hi-t.Lo+1))
	case api.TBytes:
		return doc.Bytes(any1(r, []string{"xyz", "yyy", "\x00\xffz"})[:t.Lo+r.IntN(t.Hi-t.Lo+1)])
	case api.TEnum:
		return doc.Bytes(any1(r, t.Names))
	}
	return doc.Bool(r.IntN(2) == 0)
}

// changed is the document d of the type t, of which each part may be another one, with a chance of one of so many, or, with a lesser one, not be there, or be there now.
func changed(r *rand.Rand, t api.Type, d api.Doc, of int) api.Doc {
	luck := r.IntN(of) == 0
	if schema.Scalar(t) || luck && t.Kind == api.TList {
		for tries := 3; luck && tries > 0; tries-- {
			if x := randomDoc(r, t); show(x) != show(d) {
				return x
			}
		}
		return d
	}
	made := api.Doc{Kind: d.Kind}
	for i, key := range keysOf(t, d) {
		of1, optional := partOf(t, key)
		had := slices.Index(d.Keys, key)
		if d.Kind == api.DList {
			had = i
		}
		if optional && r.IntN(3*of) == 0 {
			if had >= 0 {
				continue
			}
			made.Keys, made.Kids = append(made.Keys, key), append(made.Kids, randomDoc(r, of1))
		} else if had >= 0 {
			made.Keys, made.Kids = append(made.Keys, key), append(made.Kids, changed(r, of1, d.Kids[had], of))
		}
	}
	if d.Kind == api.DList {
		made.Keys = nil
	}
	return made
}

// keysOf is the keys that a document of the type t, as d is, may have, and, of a list, one for each kid.
func keysOf(t api.Type, d api.Doc) []string {
	switch t.Kind {
	case api.TRec:
		var l []string
		for _, f := range t.Fields {
			l = append(l, f.Name)
		}
		return l
	case api.TDict:
		l := append(slices.Clone(someKeys), d.Keys...)
		slices.Sort(l)
		return slices.Compact(l)
	}
	return make([]string, len(d.Kids))
}

// partOf is the type of what stands at the key, and whether it need not be there.
func partOf(t api.Type, key string) (api.Type, bool) {
	if t.Kind == api.TRec {
		f := t.Fields[schema.Field(t, key)]
		return f.Type, f.Optional
	}
	return t.Of[0], t.Kind == api.TDict
}

// suited is the kinds of steps that may be done at a field of that type.
func suited(t api.Type) []int {
	switch t.Kind {
	case api.TRec:
		return []int{api.LHoist, api.LHoist, api.LPlunge, api.LPlunge, api.LIn, api.LIn, api.LRename}
	case api.TDict:
		return []int{api.LMap, api.LMap, api.LMap, api.LMap, api.LRename}
	case api.TList:
		return []int{api.LHead, api.LHead, api.LRename}
	case api.TInt:
		return []int{api.LConvert, api.LWrap, api.LRemove, api.LRemove, api.LRename, api.LAdd}
	}
	return []int{api.LWrap, api.LRemove, api.LRemove, api.LRename, api.LAdd, api.LAdd}
}

// randomStep is a step that may be done at the record t, or nearly.
func randomStep(r *rand.Rand, t api.Type, depth int) api.Lens {
	name := func() string {
		if len(t.Fields) > 0 {
			return any1(r, t.Fields).Name
		}
		return any1(r, someNames)
	}
	s := api.Lens{Kind: api.LAdd, A: name(), B: any1(r, append(someNames, "e", "f")), Type: randomType(r, 1), Swaps: any1(r, [][][2]int{{{1, 2}}, {{2, 3}, {0, 1}}, {{3, 2}, {1, 1}}})}
	var a api.Type
	if i := schema.Field(t, s.A); i >= 0 {
		a = t.Fields[i].Type
		s.Kind = any1(r, suited(a))
	}
	switch s.Kind {
	case api.LAdd:
		s.A = any1(r, append(someNames, "e", "f", "g"))
	case api.LHoist:
		if len(a.Fields) > 0 {
			s.B = any1(r, a.Fields).Name
		}
	case api.LPlunge:
		s.B = name()
	case api.LRemove:
		s.Type = a
	case api.LMap:
		a = a.Of[0]
	}
	s.Doc = randomDoc(r, s.Type)
	if depth > 0 && (s.Kind == api.LIn || s.Kind == api.LMap || r.IntN(10) == 0) {
		s.Subs = randomLens(r, a, 1+r.IntN(3), depth-1)
	}
	return s
}

// randomLens is at most so many steps, all of which may be done, one behind the other.
func randomLens(r *rand.Rand, t api.Type, n, depth int) []api.Lens {
	var l []api.Lens
	for tries := 4 * n; tries > 0 && len(l) < n; tries-- {
		s := randomStep(r, t, depth)
		if made, _, err := lens.Target(t, []api.Lens{s}); err == api.OK {
			l = append(l, s)
			t = made
		}
	}
	return l
}

// randomRegistry is a right one of so many schemas, most of which are joined: a schema is of a type that a lens makes of another one's, or of a new one.
func randomRegistry(r *rand.Rand, n int) api.Registry {
	var all api.Registry
	for k := range n {
		s := api.Named{Name: name(k), Type: randomRec(r, 2+r.IntN(3))}
		if k > 0 && r.IntN(8) > 0 {
			from := r.IntN(k)
			l := randomLens(r, all.Schemas[from].Type, r.IntN(5), 3)
			s.Type, _, _ = lens.Target(all.Schemas[from].Type, l)
			j := join(from, k, l...)
			if r.IntN(2) == 0 {
				j = join(k, from, lens.Back(l)...)
			}
			all.Joins = append(all.Joins, j)
		}
		all.Schemas = append(all.Schemas, s)
	}
	return shuffled(r, all)
}

// shuffled is a registry of the same schemas and joins in another order.
func shuffled(r *rand.Rand, all api.Registry) api.Registry {
	var made api.Registry
	order := r.Perm(len(all.Schemas))
	for _, k := range order {
		made.Schemas = append(made.Schemas, all.Schemas[k])
	}
	for _, i := range r.Perm(len(all.Joins)) {
		j := all.Joins[i]
		made.Joins = append(made.Joins, join(slices.Index(order, j.From), slices.Index(order, j.To), j.Lens...))
	}
	return made
}

// snaps is so many right snapshots: of registries of some schemas, and of files that schemas have written, one behind the other.
func snaps(seed uint64, n int) []api.Snap {
	r := chance(seed, 9)
	var all []api.Snap
	for len(all) < n {
		s := api.Snap{Reg: randomRegistry(r, 1+r.IntN(5))}
		for _, name := range fileNames {
			if f := randomFile(r, s.Reg, name); r.IntN(4) == 0 && f.Name != "" {
				s.Files = append(s.Files, f)
			}
		}
		all = append(all, s)
	}
	return all
}

// fileNames is names that rise.
var fileNames = []string{"a", "a0", "a_", "aa", "b", "bcdefgh_01234567"[:16], "c", "f", "f1", "z"}

// randomFile is a file of that name at any schema, or a zero one.
func randomFile(r *rand.Rand, reg api.Registry, name string) api.File {
	k := r.IntN(len(reg.Schemas))
	s, err := trans.Start(reg, k, randomDoc(r, reg.Schemas[k].Type))
	if err != api.OK {
		return api.File{}
	}
	return api.File{Name: name, Schema: k, State: edited(r, reg, k, s, any1(r, []int{2, 4}))}
}

// edited is s, a whole state of the schema k, once schemas have written something: what is left out is kept where it is needed still.
func edited(r *rand.Rand, reg api.Registry, k int, s api.State, of int) api.State {
	for _, to := range graph.Component(reg, k) {
		there, _ := trans.Go(reg, k, to, s)
		made, err := trans.Start(reg, to, changed(r, reg.Schemas[to].Type, there.Doc, of))
		if err != api.OK {
			continue // too many entries, or too few
		}
		for i, need := range made.Res {
			if j := apply.Find(there.Res, need.Edge, need.Step, need.At); j >= 0 {
				made.Res[i] = there.Res[j]
			}
		}
		s, _ = trans.Go(reg, to, k, made)
	}
	return s
}

// messed is s, but for something of a file, or of the registry: right, or not.
func messed(r *rand.Rand, s api.Snap) api.Snap {
	s = api.Snap{Reg: s.Reg, Files: slices.Clone(s.Files)}
	if len(s.Files) == 0 || r.IntN(12) == 0 {
		s.Reg = any1(r, append(wrong(), api.Registry{}, alike(3)))
		return s
	}
	f := &s.Files[r.IntN(len(s.Files))]
	switch r.IntN(9) {
	case 0:
		f.Name = any1(r, append(fileNames, "", "F", "aaaaaaaaaaaaaaaaa", "a-", any1(r, s.Files).Name))
	case 1:
		f.Schema = any1(r, []int{-1, 0, 1, len(s.Reg.Schemas) - 1, len(s.Reg.Schemas), api.MinInt, api.MaxInt})
	case 2:
		f.State = any1(r, s.Files).State
	case 3:
		other := any1(r, s.Files)
		f.Schema, f.State = other.Schema, other.State
	case 4:
		f.State.Doc = any1(r, []api.Doc{{}, val("{}"), randomDoc(r, randomRec(r, 3))})
	case 5:
		s.Files = append(s.Files, any1(r, s.Files))
	case 6:
		s.Files[0], s.Files[len(s.Files)-1] = s.Files[len(s.Files)-1], s.Files[0]
	default:
		f.State = messedState(r, f.State)
	}
	return s
}

// messedState is s, of which a part of what is left out is another one, or not there, or one is more.
func messedState(r *rand.Rand, s api.State) api.State {
	s = apply.Copy(s)
	if len(s.Res) == 0 || r.IntN(8) == 0 {
		s.Res = apply.Put(s.Res, left(r.IntN(3)-1, place(r.IntN(2)), "true"))
		return s
	}
	i := r.IntN(len(s.Res))
	x := s.Res[i]
	s.Res = slices.Delete(s.Res, i, i+1)
	switch r.IntN(6) {
	case 0:
		return s
	case 1, 2:
		x.Doc = any1(r, []api.Doc{doc.Int(2), doc.Bool(true), doc.Bytes("x"), val("{a = [1]}"), {}})
	case 3:
		x.Edge += r.IntN(3) - 1
	case 4:
		x.Step = append(x.Step, 0)
	case 5:
		x.At = append(x.At, any1(r, someKeys))
	}
	s.Res = apply.Put(s.Res, x)
	return s
}

// maker makes calls, as ops, some of which go on from those ahead of them.
type maker struct {
	r     *rand.Rand
	joins []api.Op // that join what was declared to what it was made from
}

// next is an op that may be done to s, or nearly.
func (m *maker) next(s api.Snap) api.Op {
	o := api.Op{Do: any1(m.r, []int{api.OpWrite, api.OpWrite, api.OpWrite, api.OpWrite, api.OpDrop, api.OpDeclare, api.OpDeclare, api.OpJoin, api.OpMigrate, api.OpMigrate, api.OpMigrate}), Name: m.file(s), Schema: m.schema(s), To: m.schema(s)}
	switch o.Do {
	case api.OpWrite:
		o.Doc = m.document(s, o)
	case api.OpDeclare:
		return m.declare(s, o)
	case api.OpJoin:
		if n := len(m.joins); n > 0 && m.r.IntN(4) > 0 {
			o, m.joins = m.joins[n-1], m.joins[:n-1]
		} else if m.r.IntN(4) == 0 {
			o.Lens = randomLens(m.r, randomRec(m.r, 3), 2, 2)
		}
	}
	return o
}

func (m *maker) file(s api.Snap) string {
	if len(s.Files) > 0 && m.r.IntN(3) > 0 {
		return any1(m.r, s.Files).Name
	}
	return any1(m.r, append(fileNames, "", "F"))
}

func (m *maker) schema(s api.Snap) string {
	if len(s.Reg.Schemas) > 0 && m.r.IntN(12) > 0 {
		return any1(m.r, s.Reg.Schemas).Name
	}
	return any1(m.r, []string{"", "S", "zz"})
}

// document is one to be written by o: what its schema sees, changed, or any other one.
func (m *maker) document(s api.Snap, o api.Op) api.Doc {
	k := graph.Find(s.Reg, o.Schema)
	if k < 0 || m.r.IntN(12) == 0 {
		return any1(m.r, []api.Doc{{}, val("{}"), val("{a = 1}")})
	}
	t := s.Reg.Schemas[k].Type
	for _, f := range s.Files {
		if d, err := trans.Seen(s.Reg, f.Schema, k, f.State); f.Name == o.Name && err == api.OK && m.r.IntN(6) > 0 {
			return changed(m.r, t, d, any1(m.r, []int{1, 2, 4, 100}))
		}
	}
	return randomDoc(m.r, t)
}

// declare is o as one that declares a schema: mostly of a type that a lens makes of another one, which is to join them.
func (m *maker) declare(s api.Snap, o api.Op) api.Op {
	k := graph.Find(s.Reg, o.Schema)
	from := o.Schema
	o = api.Op{Do: api.OpDeclare, Schema: any1(m.r, []string{"t0", "t1", "t2", "t3", "t4", from, "T"}), Type: randomRec(m.r, 3)}
	if k >= 0 && m.r.IntN(6) > 0 {
		l := randomLens(m.r, s.Reg.Schemas[k].Type, 1+m.r.IntN(4), 3)
		o.Type, _, _ = lens.Target(s.Reg.Schemas[k].Type, l)
		join := api.Op{Do: api.OpJoin, Schema: from, To: o.Schema, Lens: l}
		if m.r.IntN(2) == 0 {
			join.Schema, join.To, join.Lens = o.Schema, from, lens.Back(l)
		}
		m.joins = append(m.joins, join)
	} else if m.r.IntN(3) == 0 {
		o.Type = any1(m.r, []api.Type{{}, typ("bool"), typ("{}")})
	}
	return o
}

// done is what the call of o tells of s.
func done(s api.Snap, o api.Op) (api.Snap, api.Errno) {
	switch o.Do {
	case api.OpWrite:
		return snap.Write(s, o.Name, o.Schema, o.Doc)
	case api.OpDrop:
		return snap.Drop(s, o.Name)
	case api.OpDeclare:
		return snap.Declare(s, o.Schema, o.Type)
	case api.OpJoin:
		return snap.Join(s, o.Schema, o.To, o.Lens)
	}
	return snap.Migrate(s, o.Name, o.Schema)
}
