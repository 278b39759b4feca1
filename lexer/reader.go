package lexer

import (
	"dowel/api"
	"dowel/rational"
)

// Reader takes the tokens of a text one after another.
type Reader struct {
	tokens       []Token
	at           int
	line, column int
	e            api.Errno
}

// New returns a reader of the tokens of a text.
func New(s string) *Reader {
	l, line, column, e := Scan(s)
	return &Reader{tokens: l, line: line, column: column, e: e}
}

// Peek returns the next token.
func (r *Reader) Peek() Token { return r.ahead(0) }

// ahead returns the token at a distance from the next one.
func (r *Reader) ahead(distance int) Token {
	if r == nil {
		return Token{}
	}
	if r.e != api.OK || len(r.tokens) == 0 {
		return Token{End, "", r.line, r.column}
	}
	return r.tokens[min(r.at+distance, len(r.tokens)-1)]
}

// Next returns the next token and takes it, unless it is the End.
func (r *Reader) Next() Token {
	t := r.Peek()
	if r != nil && t.Kind != End {
		r.at++
	}
	return t
}

// Fail lets a reader that has not failed yet fail at the next token.
func (r *Reader) Fail(e api.Errno) {
	if r == nil || r.e != api.OK || e == api.OK {
		return
	}
	t := r.Peek()
	r.line, r.column, r.e = t.Line, t.Column, e
}

// Is reports whether the next token is a word or a symbol with a text.
func (r *Reader) Is(text string) bool {
	t := r.Peek()
	return (t.Kind == Word || t.Kind == Symbol) && t.Text == text
}

// Take reports whether the next token is a word or a symbol with a text, and takes it then.
func (r *Reader) Take(text string) bool {
	is := r.Is(text)
	if is {
		r.Next()
	}
	return is
}

// Expect takes a word or a symbol with a text.
func (r *Reader) Expect(text string) {
	if !r.Take(text) {
		r.Fail(api.ErrSyntax)
	}
}

// take takes a token of a kind, and returns its text.
func (r *Reader) take(kind int) string {
	if r.Peek().Kind != kind {
		r.Fail(api.ErrSyntax)
		return ""
	}
	return r.Next().Text
}

// Name takes a word.
func (r *Reader) Name() string { return r.take(Word) }

// Text takes a string.
func (r *Reader) Text() string { return r.take(String) }

// Number takes a number, with its sign.
func (r *Reader) Number() api.Number {
	isNegative := r.Take("-")
	t := r.Peek()
	if isNegative && t.Kind == Number && t.Text == "0" {
		r.Fail(api.ErrForm)
		return ""
	}
	text := api.Number(r.take(Number))
	if isNegative && text != "" {
		text = "-" + text
	}
	return text
}

// Int takes an integer in a range.
func (r *Reader) Int(low, high int) int {
	distance := 0
	if r.Is("-") {
		distance = 1
	}
	// A number that is none, or -0, is Number's concern.
	if t := r.ahead(distance); t.Kind == Number && (distance == 0 || t.Text != "0") {
		x, _ := rational.Parse(api.Number(t.Text))
		if distance == 1 {
			x = rational.Neg(x)
		}
		n, ok := x.Int()
		if !ok || n < low || n > high {
			r.Fail(api.ErrRange)
			return 0
		}
		r.Number()
		return n
	}
	r.Number()
	return 0
}

// Finish fails if the next token is not the End.
func (r *Reader) Finish() {
	if r.Peek().Kind != End {
		r.Fail(api.ErrSyntax)
	}
}

// Error returns the place and the kind of the error with which the reader has failed.
func (r *Reader) Error() (line, column int, e api.Errno) {
	if r == nil {
		return 0, 0, api.ErrArgument
	}
	return r.line, r.column, r.e
}
