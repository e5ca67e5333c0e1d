package text

import (
	"slices"
	"strconv"
	"strings"

	"cabochon/api"
	"cabochon/doc"
)

// firsts are the bytes that a document's text may begin with.
const firsts = `{<[tf"-0123456789`

// Parse is the document that s is, and the length of s; or where s is first wrong, and how.
func Parse(s string) (api.Doc, int, api.Errno) {
	var d api.Doc
	at, err := read(s, func(r *reader) {
		d = r.document(1)
		r.blanks()
	})
	// A text that is too long is wrong at that place, no sooner: what is wrong ahead of it is told.
	if len(s) > api.MaxText && at >= api.MaxText {
		return api.Doc{}, api.MaxText, api.ErrFull
	}
	if err != api.OK {
		return api.Doc{}, at, err
	}
	return d, at, api.OK
}

// Unquote is the byte string whose text s is, and true.
func Unquote(s string) (string, bool) {
	var b string
	if _, err := read(s, func(r *reader) { b = r.bytes() }); err != api.OK {
		return "", false
	}
	return b, true
}

// Number is the number whose text s is, and true.
func Number(s string) (int, bool) {
	var n int
	if _, err := read(s, func(r *reader) { n = r.number() }); err != api.OK {
		return 0, false
	}
	return n, true
}

// reader is a text, up to where it is read, and how many parts of a document have begun.
type reader struct {
	s     string
	at    int
	parts int
}

// fault is what a reader panics with: where the text is wrong, and how.
type fault struct {
	at  int
	err api.Errno
}

// read reads the whole of s by what is given: its length, or where it is wrong, and how.
func read(s string, whole func(r *reader)) (at int, err api.Errno) {
	r := &reader{s: s}
	defer func() {
		if x := recover(); x != nil {
			wrong := x.(fault)
			at, err = wrong.at, wrong.err
		}
	}()
	whole(r)
	if r.at < len(s) {
		fail(r.at, api.ErrForm)
	}
	return len(s), api.OK
}

func fail(at int, err api.Errno) { panic(fault{at, err}) }

// peek is the byte that is next; a zero one at the end, which the grammar has nowhere.
func (r *reader) peek() byte {
	if r.at == len(r.s) {
		return 0
	}
	return r.s[r.at]
}

// take goes over that byte, and over no other one.
func (r *reader) take(c byte) {
	if r.peek() != c {
		fail(r.at, api.ErrForm)
	}
	r.at++
}

func (r *reader) blanks() {
	for {
		switch r.peek() {
		case ' ', '\t', '\n', '\r':
			r.at++
		default:
			return
		}
	}
}

// document reads one that is so deep. The limits are looked at as it begins, as that is the place that is told.
func (r *reader) document(depth int) api.Doc {
	r.blanks()
	first := r.peek()
	if strings.IndexByte(firsts, first) < 0 {
		fail(r.at, api.ErrForm)
	}
	if depth > api.MaxDepth {
		fail(r.at, api.ErrDeep)
	}
	r.parts++
	if r.parts > api.MaxParts {
		fail(r.at, api.ErrFull)
	}
	switch first {
	case '{':
		return r.keyed(api.DRec, '}', '=', depth, r.name)
	case '<':
		return r.keyed(api.DDict, '>', ':', depth, r.short)
	case '[':
		return r.list(depth)
	case 't':
		r.word("true")
		return doc.Bool(true)
	case 'f':
		r.word("false")
		return doc.Bool(false)
	case '"':
		return doc.Bytes(r.short())
	}
	return doc.Int(r.number())
}

// row reads from an opening bracket on to end, what stands between two commas by item.
func (r *reader) row(end byte, item func()) {
	r.at++
	r.blanks()
	if r.peek() == end {
		r.at++
		return
	}
	for {
		item()
		r.blanks()
		if r.peek() == end {
			r.at++
			return
		}
		r.take(',')
	}
}

func (r *reader) list(depth int) api.Doc {
	d := api.Doc{Kind: api.DList}
	r.row(']', func() { d.Kids = append(d.Kids, r.document(depth+1)) })
	return d
}

// keyed reads a record or a dictionary, whose keys are read by key, each with a sign behind it.
func (r *reader) keyed(kind int, end, sign byte, depth int, key func() string) api.Doc {
	d := api.Doc{Kind: kind}
	r.row(end, func() {
		r.blanks()
		begin := r.at
		k := key()
		i, has := slices.BinarySearch(d.Keys, k)
		if has {
			fail(begin, api.ErrTwice)
		}
		r.blanks()
		r.take(sign)
		kid := r.document(depth + 1)
		d.Keys = slices.Insert(d.Keys, i, k)
		d.Kids = slices.Insert(d.Kids, i, kid)
	})
	return d
}

// name is copied, so that a document does not hold the whole text that it was read from.
func (r *reader) name() string {
	begin := r.at
	if !small(r.peek()) {
		fail(r.at, api.ErrForm)
	}
	for small(r.peek()) || digit(r.peek()) || r.peek() == '_' {
		r.at++
	}
	if r.at-begin > api.MaxName {
		fail(begin, api.ErrRange)
	}
	return strings.Clone(r.s[begin:r.at])
}

func small(c byte) bool { return 'a' <= c && c <= 'z' }

func digit(c byte) bool { return '0' <= c && c <= '9' }

func (r *reader) word(s string) {
	for i := range len(s) {
		r.take(s[i])
	}
}

func (r *reader) number() int {
	begin := r.at
	r.digits()
	n, err := strconv.Atoi(r.s[begin:r.at])
	if err != nil {
		fail(begin, api.ErrRange)
	}
	return n
}

// digits goes over a 0 alone, or over as many digits as stand there: a 0 ahead of others is whole.
func (r *reader) digits() {
	if r.peek() == '0' {
		r.at++
		return
	}
	if r.peek() == '-' {
		r.at++
	}
	if r.peek() == '0' || !digit(r.peek()) {
		fail(r.at, api.ErrForm)
	}
	for digit(r.peek()) {
		r.at++
	}
}

// short is a byte string that a document may have.
func (r *reader) short() string {
	begin := r.at
	s := r.bytes()
	if len(s) > api.MaxBytes {
		fail(begin, api.ErrRange)
	}
	return s
}

func (r *reader) bytes() string {
	r.take('"')
	var b strings.Builder
	for r.peek() != '"' {
		b.WriteByte(r.inner())
	}
	r.at++
	return b.String()
}

// inner is the next byte of a byte string, however it is written.
func (r *reader) inner() byte {
	c := r.peek()
	if !plain(c) {
		fail(r.at, api.ErrForm)
	}
	r.at++
	if c != '\\' {
		return c
	}
	if c = r.peek(); c == '"' || c == '\\' {
		r.at++
		return c
	}
	r.take('x')
	high := r.hex()
	return high<<4 | r.hex()
}

func (r *reader) hex() byte {
	i := strings.IndexByte(hexDigits, r.peek())
	if i < 0 {
		fail(r.at, api.ErrForm)
	}
	r.at++
	return byte(i)
}
