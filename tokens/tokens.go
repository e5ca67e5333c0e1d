// Package tokens goes over rows of tokens by a grammar: it has what the readers of types and of lenses share.
package tokens

import (
	"slices"

	"cabochon/api"
	"cabochon/text"
)

// Word is whether s is a word of the texts of types and lenses, which no field can be called there.
func Word(s string) bool {
	switch s {
	case "dict", "list", "of", "int", "bool", "bytes", "enum",
		"rename", "to", "add", "remove", "hoist", "plunge", "wrap", "head", "convert", "in", "map", "out":
		return true
	}
	return false
}

// Reader is tokens, up to where they are read, and the end of the text that they are of. Its methods fail where another token stands than they read.
type Reader struct {
	l   []api.Token
	at  int
	end int
}

// Read goes by whole over the tokens of a text that ends there, and tells where and how that failed, if it did. It fails, too, at a token that whole leaves.
func Read(l []api.Token, end int, whole func(r *Reader)) (int, api.Errno) {
	return Caught(func() {
		r := &Reader{l: l, end: end}
		whole(r)
		if !r.Done() {
			Fail(r.Next().At, api.ErrForm)
		}
	})
}

// Done is whether no token is next.
func (r *Reader) Done() bool { return r.at == len(r.l) }

// Next is the token that is next; behind the last one it is of no kind, so that no grammar has it anywhere.
func (r *Reader) Next() api.Token {
	if r.Done() {
		return api.Token{At: r.end}
	}
	return r.l[r.at]
}

// Skip goes over the next token, if it is that sign or word, and tells whether it is.
func (r *Reader) Skip(s string) bool {
	t := r.Next()
	if t.Text != s || t.Kind != api.TokSign && (t.Kind != api.TokName || !Word(s)) {
		return false
	}
	r.at++
	return true
}

// Take goes over that sign or word.
func (r *Reader) Take(s string) {
	if !r.Skip(s) {
		Fail(r.Next().At, api.ErrForm)
	}
}

// Name goes over a name that is no word, and tells it.
func (r *Reader) Name() string {
	t := r.Next()
	if t.Kind != api.TokName || Word(t.Text) {
		Fail(t.At, api.ErrForm)
	}
	r.at++
	return t.Text
}

// Number goes over a number, and tells it.
func (r *Reader) Number() int {
	t := r.Next()
	n, is := text.Number(t.Text)
	if t.Kind != api.TokInt || !is {
		Fail(t.At, api.ErrForm)
	}
	r.at++
	return n
}

// Bytes goes over a byte string, and tells it.
func (r *Reader) Bytes() string {
	t := r.Next()
	s, is := text.Unquote(t.Text)
	if t.Kind != api.TokBytes || !is {
		Fail(t.At, api.ErrForm)
	}
	r.at++
	return s
}

// Row reads items up to that end, a comma between two.
func (r *Reader) Row(end string, item func()) {
	item()
	for !r.Skip(end) {
		r.Take(",")
		item()
	}
}

// Once reads a name that is not among those seen, and puts it there: a name that is there is wrong where it stands, whatever is behind it.
func (r *Reader) Once(seen map[string]struct{}, read func() string) string {
	at := r.Next().At
	name := read()
	if _, is := seen[name]; is {
		Fail(at, api.ErrTwice)
	}
	seen[name] = struct{}{}
	return name
}

// Scalar reads a type of one of the kinds that have no other types in them.
func (r *Reader) Scalar() api.Type {
	switch {
	case r.Skip("int"):
		return r.Ranged(api.TInt)
	case r.Skip("bool"):
		return api.Type{Kind: api.TBool}
	case r.Skip("bytes"):
		return r.Ranged(api.TBytes)
	}
	r.Take("enum")
	return r.enum()
}

// Ranged reads what stands behind the word of a type of that kind: from where to where it goes.
func (r *Reader) Ranged(kind int) api.Type {
	t := api.Type{Kind: kind}
	r.Take("(")
	t.Lo = r.Number()
	r.Take("..")
	t.Hi = r.Number()
	r.Take(")")
	return t
}

func (r *Reader) enum() api.Type {
	t := api.Type{Kind: api.TEnum}
	seen := map[string]struct{}{}
	r.Take("(")
	r.Row(")", func() { t.Names = append(t.Names, r.Once(seen, r.Bytes)) })
	slices.Sort(t.Names)
	return t
}
