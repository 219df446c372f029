package lex

import (
	"strings"

	"breadboard/api"
	"breadboard/num"
)

// cursor is a place in a line.
type cursor struct {
	line string
	at   int
}

// rest returns what follows the place.
func (c *cursor) rest() string { return c.line[c.at:] }

// take returns the next bytes, and moves the place behind them.
func (c *cursor) take(size int) string {
	s := c.rest()[:size]
	c.at += size
	return s
}

// skipBlanks moves the place behind spaces and tabs.
func (c *cursor) skipBlanks() {
	c.at = len(c.line) - len(strings.TrimLeft(c.rest(), " \t"))
}

// lexer reads the tokens of a line, one after the other.
type lexer struct {
	cursor
}

// next reads the next token. One byte tells which of its readers finds it; only
// $ begins a number or a sign, so the sign comes after the number.
func (x *lexer) next() (Token, api.Code) {
	x.skipBlanks()
	at := x.at
	for _, read := range [...]func() (Token, api.Code){x.end, x.word, x.number, x.quoted, x.sign} {
		// ErrChar of a reader says that another one may find a token here.
		t, e := read()
		if e == api.OK {
			t.At = at
			return t, api.OK
		}
		if e != api.ErrChar {
			return Token{}, e
		}
	}
	return Token{}, api.ErrChar
}

// end reads the end of the line. It leaves the place where it is.
func (x *lexer) end() (Token, api.Code) {
	if s := x.rest(); s != "" && s[0] != ';' {
		return Token{}, api.ErrChar
	}
	return Token{Kind: End}, api.OK
}

// word reads a word.
func (x *lexer) word() (Token, api.Code) {
	size := wordSize(x.rest())
	if size == 0 {
		return Token{}, api.ErrChar
	}
	return Token{Kind: Word, Text: x.take(size)}, api.OK
}

// number reads a number.
func (x *lexer) number() (Token, api.Code) {
	size := numberSize(x.rest())
	if size == 0 {
		return Token{}, api.ErrChar
	}
	n, ok := num.Parse(x.take(size))
	if !ok {
		return Token{}, api.ErrSyntax
	}
	return Token{Kind: Number, N: n}, api.OK
}

// quoted reads a string.
func (x *lexer) quoted() (Token, api.Code) {
	if !isMark(x.rest()) {
		return Token{}, api.ErrChar
	}
	mark := x.take(1)
	var parts []string
	for {
		size := strings.Index(x.rest(), mark)
		if size < 0 {
			return Token{}, api.ErrSyntax
		}
		parts = append(parts, x.take(size))
		x.take(len(mark))
		// A mark that another one follows directly does not end the string:
		// both together are one byte of it.
		if !strings.HasPrefix(x.rest(), mark) {
			return Token{Kind: String, Text: strings.Join(parts, mark)}, api.OK
		}
		x.take(len(mark))
	}
}

// sign reads a sign.
func (x *lexer) sign() (Token, api.Code) {
	for _, s := range signs {
		if strings.HasPrefix(x.rest(), s) {
			return Token{Kind: Sign, Text: x.take(len(s))}, api.OK
		}
	}
	return Token{}, api.ErrChar
}
