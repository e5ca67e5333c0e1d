package decl

import (
	"slices"
	"strings"

	"cabochon/api"
	"cabochon/schema"
	"cabochon/text"
)

// Parse is the type that s is, and the length of s; or where s is first wrong, and how.
func Parse(s string) (api.Type, int, api.Errno) {
	l, at, err := Lex(s)
	if err != api.OK {
		return api.Type{}, at, err
	}
	return Type(l, len(s))
}

// Type is the type that the tokens are, and the end, which is where a token that is missing should stand; or where they are first wrong, and how.
func Type(l []api.Token, end int) (api.Type, int, api.Errno) {
	var t api.Type
	at, err := caught(func() {
		r := &reader{l: l, end: end}
		t = r.whole()
	})
	if err != api.OK {
		return api.Type{}, at, err
	}
	if !schema.Right(t) {
		return api.Type{}, 0, api.ErrArg
	}
	return t, end, api.OK
}

// reader is tokens, up to where they are read, and the end of the text that they are of.
type reader struct {
	l   []api.Token
	at  int
	end int
}

// next is the token that is next; behind the last one it is of no kind, so that the grammar has it nowhere.
func (r *reader) next() api.Token {
	if r.at == len(r.l) {
		return api.Token{At: r.end}
	}
	return r.l[r.at]
}

// skip goes over the next token, if it is that sign or word, and tells whether it is.
func (r *reader) skip(s string) bool {
	t := r.next()
	if t.Text != s || t.Kind != api.TokSign && (t.Kind != api.TokName || !Word(s)) {
		return false
	}
	r.at++
	return true
}

// take goes over that sign or word, and over no other token.
func (r *reader) take(s string) {
	if !r.skip(s) {
		fail(r.next().At, api.ErrForm)
	}
}

func (r *reader) name() string {
	t := r.next()
	if t.Kind != api.TokName || Word(t.Text) {
		fail(t.At, api.ErrForm)
	}
	r.at++
	return t.Text
}

func (r *reader) number() int {
	t := r.next()
	n, is := text.Number(t.Text)
	if t.Kind != api.TokInt || !is {
		fail(t.At, api.ErrForm)
	}
	r.at++
	return n
}

func (r *reader) bytes() string {
	t := r.next()
	s, is := text.Unquote(t.Text)
	if t.Kind != api.TokBytes || !is {
		fail(t.At, api.ErrForm)
	}
	r.at++
	return s
}

func (r *reader) whole() api.Type {
	t := r.one()
	if r.at < len(r.l) {
		fail(r.next().At, api.ErrForm)
	}
	return t
}

func (r *reader) one() api.Type {
	switch {
	case r.skip("{"):
		return r.record()
	case r.skip("dict"):
		return r.many(api.TDict)
	case r.skip("list"):
		return r.many(api.TList)
	case r.skip("int"):
		return r.ranged(api.TInt)
	case r.skip("bool"):
		return api.Type{Kind: api.TBool}
	case r.skip("bytes"):
		return r.ranged(api.TBytes)
	}
	r.take("enum")
	return r.enum()
}

func (r *reader) record() api.Type {
	t := api.Type{Kind: api.TRec}
	if r.skip("}") {
		return t
	}
	seen := map[string]struct{}{}
	r.row("}", func() {
		f := api.Field{Name: r.once(seen, r.name)}
		f.Optional = r.skip("?")
		r.take(":")
		f.Type = r.one()
		t.Fields = append(t.Fields, f)
	})
	slices.SortFunc(t.Fields, func(a, b api.Field) int { return strings.Compare(a.Name, b.Name) })
	return t
}

func (r *reader) many(kind int) api.Type {
	t := r.ranged(kind)
	r.take("of")
	t.Of = []api.Type{r.one()}
	return t
}

func (r *reader) ranged(kind int) api.Type {
	t := api.Type{Kind: kind}
	r.take("(")
	t.Lo = r.number()
	r.take("..")
	t.Hi = r.number()
	r.take(")")
	return t
}

func (r *reader) enum() api.Type {
	t := api.Type{Kind: api.TEnum}
	seen := map[string]struct{}{}
	r.take("(")
	r.row(")", func() { t.Names = append(t.Names, r.once(seen, r.bytes)) })
	slices.Sort(t.Names)
	return t
}

// row reads items up to that end, a comma between two.
func (r *reader) row(end string, item func()) {
	item()
	for !r.skip(end) {
		r.take(",")
		item()
	}
}

// once reads a name that is not among those seen, and puts it there: a name that is there is wrong where it stands, whatever is behind it.
func (r *reader) once(seen map[string]struct{}, read func() string) string {
	at := r.next().At
	name := read()
	if _, is := seen[name]; is {
		fail(at, api.ErrTwice)
	}
	seen[name] = struct{}{}
	return name
}
