package apply

import (
	"slices"

	"cabochon/api"
	"cabochon/doc"
	"cabochon/lens"
	"cabochon/valid"
)

// walk is the way of a state through a lens: what the state has become, and the place of the step that is done.
type walk struct {
	api.State           // all of it is the walk's own; Res is what was left out ahead of the walk, and is so still
	out       []api.Res // what is left out on the way: no place comes up twice, so that none is looked for here
	needs     []api.Res // where something is taken, with what is if nothing was left out
	edge      int
	back      bool
	step      []int
	keys      []string
	err       api.Errno
}

// fault is why the walk, at its end, may not be.
func (w *walk) fault() api.Errno {
	switch {
	case w.err != api.OK:
		return w.err
	case !Right(w.Res):
		return api.ErrArg
	case !doc.Right(w.Doc):
		return api.ErrFull
	}
	return api.OK
}

// steps does those of l, one behind the other, at the record d. On the way back l is turned round already, so that its places are counted from its end.
func (w *walk) steps(l []api.Lens, d *api.Doc) {
	for i, s := range l {
		if w.back {
			i = len(l) - 1 - i
		}
		w.step = append(w.step, i)
		do := w.way(s.Kind)
		do(d, s)
		w.step = w.step[:len(w.step)-1]
	}
}

// way is how a step of that kind is done at a record. What may not be done is refused ahead of the walk: there are these kinds alone, and each field that a step asks for is there.
func (w *walk) way(kind int) func(d *api.Doc, s api.Lens) {
	switch kind {
	case api.LRename:
		return w.rename
	case api.LAdd:
		return w.add
	case api.LRemove:
		return w.remove
	case api.LHoist:
		return w.hoist
	case api.LPlunge:
		return w.plunge
	case api.LWrap:
		return w.wrap
	case api.LHead:
		return w.head
	case api.LConvert:
		return w.convert
	case api.LIn:
		return w.in
	}
	return w.inEach
}

func (*walk) rename(d *api.Doc, s api.Lens) {
	if x, is := pull(d, s.A); is { // it need not, if it is optional
		push(d, s.B, x)
	}
}

func (w *walk) add(d *api.Doc, s api.Lens) {
	w.needs = append(w.needs, w.here(s.Doc))
	x, was := w.taken()
	if !was {
		x = doc.Copy(s.Doc)
	} else if !valid.Is(s.Type, x) {
		w.err = api.ErrRange
	}
	push(d, s.A, x)
}

func (w *walk) remove(d *api.Doc, s api.Lens) {
	x, _ := pull(d, s.A)
	w.taken()
	w.out = append(w.out, w.here(x))
}

func (*walk) hoist(d *api.Doc, s api.Lens) {
	x, _ := pull(field(d, s.A), s.B)
	push(d, s.B, x)
}

func (*walk) plunge(d *api.Doc, s api.Lens) {
	x, _ := pull(d, s.B)
	push(field(d, s.A), s.B, x)
}

func (*walk) wrap(d *api.Doc, s api.Lens) {
	a := field(d, s.A)
	*a = doc.List(*a)
}

func (*walk) head(d *api.Doc, s api.Lens) {
	a := field(d, s.A)
	*a = a.Kids[0]
}

func (*walk) convert(d *api.Doc, s api.Lens) {
	a := field(d, s.A)
	a.Num = lens.Swap(a.Num, s.Swaps)
}

func (w *walk) in(d *api.Doc, s api.Lens) { w.steps(s.Subs, field(d, s.A)) }

func (w *walk) inEach(d *api.Doc, s api.Lens) {
	a := field(d, s.A)
	for i, key := range a.Keys {
		w.keys = append(w.keys, key)
		w.steps(s.Subs, &a.Kids[i])
		w.keys = w.keys[:len(w.keys)-1]
	}
}

// here is x, left out at the place where the walk is.
func (w *walk) here(x api.Doc) api.Res {
	return copied(api.Res{Edge: w.edge, Step: w.step, At: w.keys, Doc: x})
}

// taken is what was left out at the place where the walk is, and true; it is left out no more.
func (w *walk) taken() (api.Doc, bool) {
	i, is := slices.BinarySearchFunc(w.Res, w.here(api.Doc{}), Less)
	if !is {
		return api.Doc{}, false
	}
	x := w.Res[i].Doc
	w.Res = slices.Delete(w.Res, i, i+1)
	return x, true
}

// Fields are moved here, and not by package doc, which takes right documents alone: on the way one may have too many parts, or be too deep, that is right at the end.

// field is the field of the record d, where it stands.
func field(d *api.Doc, name string) *api.Doc {
	i, _ := slices.BinarySearch(d.Keys, name)
	return &d.Kids[i]
}

// pull takes a field out of the record d, and tells whether it was there.
func pull(d *api.Doc, name string) (api.Doc, bool) {
	i, is := slices.BinarySearch(d.Keys, name)
	if !is {
		return api.Doc{}, false
	}
	x := d.Kids[i]
	d.Keys = slices.Delete(d.Keys, i, i+1)
	d.Kids = slices.Delete(d.Kids, i, i+1)
	return x, true
}

// push puts a field, which is not there, into the record d.
func push(d *api.Doc, name string, x api.Doc) {
	i, _ := slices.BinarySearch(d.Keys, name)
	d.Keys = slices.Insert(d.Keys, i, name)
	d.Kids = slices.Insert(d.Kids, i, x)
}
