package lexer

import (
	"iter"
	"strings"

	"dowel/api"
	"dowel/rational"
)

// scanner goes through a text; line and column are the place of its next byte, or of the error.
type scanner struct {
	text         string
	at           int
	line, column int
	e            api.Errno
}

func isLetter(c byte) bool { return c >= 'a' && c <= 'z' }

func isDigit(c byte) bool { return c >= '0' && c <= '9' }

func isPrintable(c byte) bool { return c >= 32 && c <= 126 }

func isInWord(c byte) bool { return isLetter(c) || isDigit(c) || c == '-' || c == '_' }

// class is the bytes with which a kind of tokens begins, and what reads such a token: its text, and how many bytes stand there.
type class struct {
	kind   int
	begins func(byte) bool
	read   func() (text string, size int)
}

// classes returns the classes of bytes.
func (s *scanner) classes() []class {
	is := func(c byte) func(byte) bool { return func(d byte) bool { return c == d } }
	return []class{
		{Word, isLetter, s.word},
		{Number, isDigit, s.number},
		{String, is('"'), s.string},
		{Symbol, func(byte) bool { return true }, s.symbol},
	}
}

// peek returns the byte at a distance from the next one; 0 behind the end.
func (s *scanner) peek(distance int) byte {
	if s.at+distance >= len(s.text) {
		return 0
	}
	return s.text[s.at+distance]
}

// skip goes over some bytes.
func (s *scanner) skip(size int) {
	for range size {
		s.column++
		if s.text[s.at] == '\n' {
			s.line, s.column = s.line+1, 1
		}
		s.at++
	}
}

// fail ends the scan with an error at a distance from the next byte, in the same line.
func (s *scanner) fail(e api.Errno, distance int) (string, int) {
	s.e, s.column = e, s.column+distance
	return "", 0
}

// gap goes over blanks, line feeds and comments.
func (s *scanner) gap() {
	for s.at < len(s.text) {
		switch s.peek(0) {
		case ' ', '\n':
			s.skip(1)
		case '#':
			rest := s.text[s.at:]
			if end := strings.IndexByte(rest, '\n'); end >= 0 {
				rest = rest[:end]
			}
			s.skip(len(rest))
		default:
			return
		}
	}
}

// tokens yields all tokens, and the End, as far as there is no error.
func (s *scanner) tokens() iter.Seq[Token] {
	return func(yield func(Token) bool) {
		for s.gap(); s.at < len(s.text); s.gap() {
			t, size := s.token()
			if s.e != api.OK || !yield(t) {
				return
			}
			s.skip(size)
		}
		yield(Token{End, "", s.line, s.column})
	}
}

// token reads the next token.
func (s *scanner) token() (Token, int) {
	for _, c := range s.classes() {
		if c.begins(s.peek(0)) {
			text, size := c.read()
			return Token{c.kind, text, s.line, s.column}, size
		}
	}
	return Token{}, 0
}

// run returns the number of bytes of a class from a distance on.
func (s *scanner) run(distance int, belongs func(byte) bool) int {
	size := 0
	for s.at+distance+size < len(s.text) && belongs(s.peek(distance+size)) {
		size++
	}
	return size
}

func (s *scanner) word() (string, int) {
	size := s.run(0, isInWord)
	if size > api.MaxName {
		return s.fail(api.ErrLong, 0)
	}
	return s.text[s.at : s.at+size], size
}

func (s *scanner) number() (string, int) {
	size := s.run(0, isDigit)
	if s.peek(size) == '/' && isDigit(s.peek(size+1)) {
		size += 1 + s.run(size+1, isDigit)
	}
	if size > api.MaxNumber {
		return s.fail(api.ErrLong, 0)
	}
	text := s.text[s.at : s.at+size]
	if _, e := rational.Parse(api.Number(text)); e != api.OK {
		return s.fail(api.ErrForm, 0)
	}
	return text, size
}

func (s *scanner) string() (string, int) {
	var b strings.Builder
	for i := 1; ; i++ {
		c := s.peek(i)
		switch {
		case s.at+i >= len(s.text) || c == '\n':
			return s.fail(api.ErrTruncated, 0)
		case c == '"':
			if b.Len() > api.MaxText {
				return s.fail(api.ErrLong, 0)
			}
			return b.String(), i + 1
		case !isPrintable(c):
			return s.fail(api.ErrSyntax, i)
		case c == '\\':
			c = s.peek(i + 1)
			if c != '"' && c != '\\' {
				return s.fail(api.ErrSyntax, i)
			}
			i++
		}
		b.WriteByte(c)
	}
}

func (s *scanner) symbol() (string, int) {
	rest := s.text[s.at:]
	for _, symbol := range []string{"..", "<=", ">=", "->", "{", "}", "(", ")", "[", "]", ",", ";", ":", "=", "<", ">", "+", "-", "*", "/", "@"} {
		if strings.HasPrefix(rest, symbol) {
			return symbol, len(symbol)
		}
	}
	return s.fail(api.ErrSyntax, 0)
}
