package lenstext

import (
	"cabochon/api"
	"cabochon/decl"
	"cabochon/doc"
	"cabochon/tokens"
)

// deepest is how deep steps that others stand in may stand within one another.
const deepest = 8

// Parse is the lens that s is, and the length of s; or where s is first wrong, and how.
func Parse(s string) ([]api.Lens, int, api.Errno) {
	all, at, err := decl.Lex(s)
	if err != api.OK {
		return nil, at, err
	}
	var l []api.Lens
	at, err = tokens.Read(all, len(s), func(r *tokens.Reader) { l = (&reader{Reader: r}).stepsTo(r.Done) })
	if err != api.OK {
		return nil, at, err
	}
	return l, len(s), api.OK
}

// reader is a reader of tokens that knows how many steps have begun, and how many are begun that others stand in.
type reader struct {
	*tokens.Reader
	steps int
	depth int
}

// stepsTo reads steps until, ahead of one, the end is there.
func (r *reader) stepsTo(end func() bool) []api.Lens {
	var l []api.Lens
	for !end() {
		l = append(l, r.step())
		r.Take(";")
	}
	return l
}

func (r *reader) step() api.Lens {
	at := r.Next().At
	switch {
	case r.begins("rename"):
		return r.rename()
	case r.begins("add"):
		return r.valued(api.LAdd)
	case r.begins("remove"):
		return r.valued(api.LRemove)
	case r.begins("hoist"):
		return r.moved(api.LHoist, "out", "of")
	case r.begins("plunge"):
		return r.moved(api.LPlunge, "in")
	case r.begins("wrap"):
		return api.Lens{Kind: api.LWrap, A: r.Name()}
	case r.begins("head"):
		return api.Lens{Kind: api.LHead, A: r.Name()}
	case r.begins("convert"):
		return r.convert()
	case r.begins("in"):
		return r.within(api.LIn, at)
	case r.begins("map"):
		return r.within(api.LMap, at)
	}
	tokens.Fail(at, api.ErrForm)
	return api.Lens{}
}

// begins goes over the next token, if it is that word, with which a step begins, and tells whether it is. The step after as many as may be is wrong where it begins.
func (r *reader) begins(word string) bool {
	at := r.Next().At
	if !r.Skip(word) {
		return false
	}
	r.steps++
	if r.steps > api.MaxSteps {
		tokens.Fail(at, api.ErrFull)
	}
	return true
}

func (r *reader) rename() api.Lens {
	a := r.Name()
	r.Take("to")
	return api.Lens{Kind: api.LRename, A: a, B: r.Name()}
}

func (r *reader) valued(kind int) api.Lens {
	s := api.Lens{Kind: kind, A: r.Name()}
	r.Take(":")
	s.Type = r.Scalar()
	r.Take("=")
	s.Doc = r.value()
	return s
}

// value need not be of the step's type: that is asked where the lens is used.
func (r *reader) value() api.Doc {
	t := r.Next()
	switch t.Kind {
	case api.TokInt:
		return doc.Int(r.Number())
	case api.TokBytes:
		return doc.Bytes(r.Bytes())
	}
	name := r.Name()
	if name != "true" && name != "false" {
		tokens.Fail(t.At, api.ErrForm)
	}
	return doc.Bool(name == "true")
}

// moved reads a step that moves one field out of another one, or into it: these words stand between the two.
func (r *reader) moved(kind int, words ...string) api.Lens {
	b := r.Name()
	for _, word := range words {
		r.Take(word)
	}
	return api.Lens{Kind: kind, A: r.Name(), B: b}
}

func (r *reader) convert() api.Lens {
	s := api.Lens{Kind: api.LConvert, A: r.Name()}
	r.Take("(")
	r.Row(")", func() {
		n := r.Number()
		r.Take("->")
		s.Swaps = append(s.Swaps, [2]int{n, r.Number()})
	})
	return s
}

// within reads a step that begins at that place and that others stand in.
func (r *reader) within(kind, at int) api.Lens {
	r.depth++
	if r.depth > deepest {
		tokens.Fail(at, api.ErrDeep)
	}
	s := api.Lens{Kind: kind, A: r.Name()}
	r.Take("{")
	s.Subs = r.stepsTo(func() bool { return r.Skip("}") })
	r.depth--
	return s
}
