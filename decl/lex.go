package decl

import (
	"strings"

	"cabochon/api"
	"cabochon/text"
	"cabochon/tokens"
)

// Lex is the tokens of s, and the length of s; or where s is first wrong, and how.
func Lex(s string) ([]api.Token, int, api.Errno) {
	if len(s) > api.MaxText {
		return nil, api.MaxText, api.ErrFull
	}
	var l []api.Token
	at, err := tokens.Caught(func() {
		for i := 0; i < len(s); {
			if blank(s[i]) {
				i++
				continue
			}
			t := token(s, i)
			l = append(l, t)
			i += len(t.Text)
		}
	})
	if err != api.OK {
		return nil, at, err
	}
	return l, len(s), api.OK
}

func blank(c byte) bool { return c == ' ' || c == '\t' || c == '\n' || c == '\r' }

func small(c byte) bool { return 'a' <= c && c <= 'z' }

func digit(c byte) bool { return '0' <= c && c <= '9' }

// token is the one that begins at that place. Its text is copied, so that a type does not hold the whole text that it was read from.
func token(s string, at int) api.Token {
	kind, end := api.TokSign, at
	switch c := s[at]; {
	case small(c):
		kind, end = api.TokName, behindName(s, at)
	case c == '"':
		kind, end = api.TokBytes, behindBytes(s, at)
	case digit(c) || c == '-' && !strings.HasPrefix(s[at:], "->"):
		kind, end = api.TokInt, behindInt(s, at)
	default:
		end = behindSign(s, at)
	}
	return api.Token{Kind: kind, Text: strings.Clone(s[at:end]), At: at}
}

func behindName(s string, at int) int {
	end := at
	for end < len(s) && (small(s[end]) || digit(s[end]) || s[end] == '_') {
		end++
	}
	if end-at > api.MaxName {
		tokens.Fail(at, api.ErrRange)
	}
	return end
}

// behindBytes looks for the end first, as text tells of none but a whole byte string what it is.
func behindBytes(s string, at int) int {
	end := at + 1
	for end < len(s) && s[end] != '"' {
		if s[end] == '\\' {
			end++ // what stands behind it ends nothing
		}
		end++
	}
	if end >= len(s) {
		tokens.Fail(at, api.ErrForm)
	}
	end++
	b, is := text.Unquote(s[at:end])
	if !is {
		tokens.Fail(at, api.ErrForm)
	}
	if len(b) > api.MaxBytes {
		tokens.Fail(at, api.ErrRange)
	}
	return end
}

// behindInt takes a 0 alone: a digit behind it begins the next token.
func behindInt(s string, at int) int {
	if s[at] == '0' {
		return at + 1
	}
	first := at
	if s[at] == '-' {
		first++
	}
	end := first
	for end < len(s) && digit(s[end]) {
		end++
	}
	if end == first || s[first] == '0' {
		tokens.Fail(at, api.ErrForm)
	}
	if _, is := text.Number(s[at:end]); !is {
		tokens.Fail(at, api.ErrRange)
	}
	return end
}

func behindSign(s string, at int) int {
	if strings.HasPrefix(s[at:], "..") || strings.HasPrefix(s[at:], "->") {
		return at + 2
	}
	switch s[at] {
	case '{', '}', '(', ')', ',', ':', '?', '=', ';':
		return at + 1
	}
	tokens.Fail(at, api.ErrForm)
	return at
}
