package snap

import (
	"cabochon/api"
	"cabochon/doc"
	"cabochon/graph"
	"cabochon/trans"
)

// Write is s, once that schema has written the document d into the file of that name, which is made, if there is none.
func Write(s api.Snap, name, schema string, d api.Doc) (api.Snap, api.Errno) {
	if !Right(s) || !doc.Name(name) {
		return api.Snap{}, api.ErrArg
	}
	i, is := files.place(s.Files, name)
	k := graph.Find(s.Reg, schema)
	switch {
	case k < 0:
		return api.Snap{}, api.ErrNone
	case !is && len(s.Files) >= api.MaxFiles:
		return api.Snap{}, api.ErrFull
	}
	made, err := trans.Start(s.Reg, k, d)
	if err == api.OK && is {
		made, err = into(s.Reg, s.Files[i], k, made)
	}
	if err != api.OK {
		return api.Snap{}, err
	}
	return with(s, api.File{Name: name, Schema: k, State: made}), api.OK
}

// into is start, a whole state of the schema k, once it is written into f: what is left out of f stays so, as far as start leaves something out there.
func into(r api.Registry, f api.File, k int, start api.State) (api.State, api.Errno) {
	was, err := trans.Go(r, f.Schema, k, f.State)
	switch err {
	case api.OK:
		return trans.Fill(r, k, api.State{Doc: start.Doc, Res: Kept(was.Res, start.Res)})
	case api.ErrNoPath:
		return start, api.OK
	}
	return api.State{}, err
}

// Read is what that schema sees of the file of that name.
func Read(s api.Snap, name, schema string) (api.Doc, api.Errno) {
	i, err := sought(s, name)
	if err != api.OK {
		return api.Doc{}, err
	}
	return trans.Seen(s.Reg, s.Files[i].Schema, graph.Find(s.Reg, schema), s.Files[i].State)
}

// Drop is s without the file of that name.
func Drop(s api.Snap, name string) (api.Snap, api.Errno) {
	i, err := sought(s, name)
	if err != api.OK {
		return api.Snap{}, err
	}
	return api.Snap{Reg: graph.Copy(s.Reg), Files: files.without(s.Files, i)}, api.OK
}

// Migrate is s with the file of that name at that schema.
func Migrate(s api.Snap, name, schema string) (api.Snap, api.Errno) {
	i, err := sought(s, name)
	if err != api.OK {
		return api.Snap{}, err
	}
	k := graph.Find(s.Reg, schema)
	there, err := trans.Go(s.Reg, s.Files[i].Schema, k, s.Files[i].State)
	if err != api.OK {
		return api.Snap{}, err
	}
	return with(s, api.File{Name: name, Schema: k, State: there}), api.OK
}

// Declare is s with one schema more.
func Declare(s api.Snap, name string, t api.Type) (api.Snap, api.Errno) {
	if !Right(s) {
		return api.Snap{}, api.ErrArg
	}
	r, err := graph.AddSchema(s.Reg, name, t)
	if err != api.OK {
		return api.Snap{}, err
	}
	return api.Snap{Reg: r, Files: files.copied(s.Files)}, api.OK
}

// Join is s with one join more, by which schemas may see files that they did not see.
func Join(s api.Snap, from, to string, l []api.Lens) (api.Snap, api.Errno) {
	if !Right(s) {
		return api.Snap{}, api.ErrArg
	}
	r, err := graph.AddJoin(s.Reg, from, to, l)
	if err != api.OK {
		return api.Snap{}, err
	}
	whole := api.Snap{Reg: r}
	for _, f := range s.Files {
		if f.State, err = trans.Fill(r, f.Schema, f.State); err != api.OK {
			return api.Snap{}, err
		}
		whole.Files = append(whole.Files, f)
	}
	return whole, api.OK
}

// sought is the place of the file of that name. (Where a schema is sought, too, trans tells ErrNone of the place -1.)
func sought(s api.Snap, name string) (int, api.Errno) {
	if !Right(s) {
		return 0, api.ErrArg
	}
	i, is := files.place(s.Files, name)
	if !is {
		return 0, api.ErrNone
	}
	return i, api.OK
}

// with is a copy of s with f, in the place of the file of its name, if there is one.
func with(s api.Snap, f api.File) api.Snap {
	return api.Snap{Reg: graph.Copy(s.Reg), Files: files.with(s.Files, f)}
}
