package lexer

import (
	"fmt"
	"math"
	"math/rand"
	"slices"
	"strings"
	"testing"

	"dowel/api"
)

// show writes tokens without their places.
func show(l []Token) string {
	var words []string
	for _, t := range l {
		words = append(words, []string{"", "word", "number", "string", "symbol", "end"}[t.Kind]+":"+t.Text)
	}
	return strings.Join(words, " ")
}

// P35.1
func TestScan(t *testing.T) {
	l, line, column, e := Scan("gap -> 3/4 # end")
	want := []Token{{Word, "gap", 1, 1}, {Symbol, "->", 1, 5}, {Number, "3/4", 1, 8}, {End, "", 1, 17}}
	if !slices.Equal(l, want) || line != 0 || column != 0 || e != api.OK {
		t.Errorf("Scan = %v, %d, %d, %d", l, line, column, e)
	}
	l, _, _, e = Scan("a\n  # x \"\n b#\n\n\"q \\\" \\\\\" 7\n")
	want = []Token{{Word, "a", 1, 1}, {Word, "b", 3, 2}, {String, `q " \`, 5, 1}, {Number, "7", 5, 11}, {End, "", 6, 1}}
	if !slices.Equal(l, want) || e != api.OK {
		t.Errorf("Scan = %v, %d", l, e)
	}
	for text, want := range map[string]string{
		"": "end:", "a-b": "word:a-b end:", "1..2": "number:1 symbol:.. number:2 end:", "3/a": "number:3 symbol:/ word:a end:", "3/": "number:3 symbol:/ end:", "3/4/5": "number:3/4 symbol:/ number:5 end:", "<=<>=>->-": "symbol:<= symbol:< symbol:>= symbol:> symbol:-> symbol:- end:", "{}()[],;:=+*/@": "symbol:{ symbol:} symbol:( symbol:) symbol:[ symbol:] symbol:, symbol:; symbol:: symbol:= symbol:+ symbol:* symbol:/ symbol:@ end:", "-5": "symbol:- number:5 end:", "a_1-b9 x": "word:a_1-b9 word:x end:", "0": "number:0 end:", "10": "number:10 end:", `""`: "string: end:", `"a"b`: "string:a word:b end:", "7a": "number:7 word:a end:", "a->b": "word:a- symbol:> word:b end:", "...,": "", "# only": "end:", strings.Repeat("a", 40): "word:" + strings.Repeat("a", 40) + " end:",
	} {
		l, _, _, e := Scan(text)
		if want == "" {
			if e != api.ErrSyntax {
				t.Errorf("Scan(%q): %d", text, e)
			}
			continue
		}
		if show(l) != want || e != api.OK {
			t.Errorf("Scan(%q) = %s, %d", text, show(l), e)
		}
	}
}

// P35.1
func TestErrorsOfScan(t *testing.T) {
	long := strings.Repeat("1", api.MaxNumber)
	str := strings.Repeat("x", api.MaxText)
	for _, c := range []struct {
		text         string
		line, column int
		e            api.Errno
	}{
		{strings.Repeat(" ", api.MaxBytes+1), 1, 1, api.ErrLong}, {strings.Repeat(" ", api.MaxBytes), 0, 0, api.OK},
		{"a\n B", 2, 2, api.ErrSyntax}, {"a.b", 1, 2, api.ErrSyntax}, {"...", 1, 3, api.ErrSyntax}, {"?", 1, 1, api.ErrSyntax}, {"_a", 1, 1, api.ErrSyntax}, {"\t", 1, 1, api.ErrSyntax}, {"\x00", 1, 1, api.ErrSyntax}, {"é", 1, 1, api.ErrSyntax}, {"a !", 1, 3, api.ErrSyntax}, {"\r\n", 1, 1, api.ErrSyntax},
		{" " + strings.Repeat("a", 41), 1, 2, api.ErrLong}, {long, 0, 0, api.OK}, {long + "1", 1, 1, api.ErrLong}, {"1/" + long, 1, 1, api.ErrLong}, {"x 0" + long, 1, 3, api.ErrLong}, {"007", 1, 1, api.ErrForm}, {"a 2/4", 1, 3, api.ErrForm}, {"00", 1, 1, api.ErrForm}, {"3/1", 1, 1, api.ErrForm}, {"3/0", 1, 1, api.ErrForm}, {"0/3", 1, 1, api.ErrForm}, {"3/07", 1, 1, api.ErrForm},
		{`"` + str + `"`, 0, 0, api.OK}, {`"` + str + `\""`, 1, 1, api.ErrLong}, {`"` + strings.Repeat(`\"`, api.MaxText) + `"`, 0, 0, api.OK}, {`a "` + str + "x\n", 1, 3, api.ErrTruncated}, {`"x`, 1, 1, api.ErrTruncated}, {"a \"b\nc\"", 1, 3, api.ErrTruncated}, {"\"a\tb\"", 1, 3, api.ErrSyntax}, {`"a\n"`, 1, 3, api.ErrSyntax}, {`"a\`, 1, 3, api.ErrSyntax}, {"\"a\\\n\"", 1, 3, api.ErrSyntax}, {`"a\"`, 1, 1, api.ErrTruncated}, {"\"a\x7f", 1, 3, api.ErrSyntax}, {"\"é\"", 1, 2, api.ErrSyntax}, {`"` + str + "x\t\"", 1, api.MaxText + 3, api.ErrSyntax},
		{"a\n\nb \"x\" 2/4", 3, 7, api.ErrForm},
	} {
		l, line, column, e := Scan(c.text)
		if line != c.line || column != c.column || e != c.e || e != api.OK && l != nil {
			t.Errorf("Scan(%.30q) = %d, %d, %d, not %d, %d, %d", c.text, line, column, e, c.line, c.column, c.e)
		}
		r := New(c.text)
		if line, column, e := r.Error(); line != c.line || column != c.column || e != c.e {
			t.Errorf("New(%.30q): %d, %d, %d", c.text, line, column, e)
		}
		if want := (Token{End, "", c.line, c.column}); c.e != api.OK && (r.Peek() != want || r.Next() != want || r.Peek() != want) {
			t.Errorf("New(%.30q): %v", c.text, r.Peek())
		}
	}
}

// P35.2
func TestQuoteAndJoin(t *testing.T) {
	for s, want := range map[string]string{"": `""`, "a b": `"a b"`, `"\`: `"\"\\"`, "~ !": `"~ !"`} {
		if q, e := Quote(s); q != want || e != api.OK {
			t.Errorf("Quote(%q) = %s, %d", s, q, e)
		}
	}
	for s, want := range map[string]api.Errno{strings.Repeat("x", api.MaxText+1): api.ErrLong, strings.Repeat("\t", api.MaxText+1): api.ErrLong, "a\n": api.ErrSyntax, "\x7f": api.ErrSyntax, "ä": api.ErrSyntax, strings.Repeat("x", api.MaxText): api.OK} {
		if q, e := Quote(s); e != want || e != api.OK && q != "" {
			t.Errorf("Quote(%.9q): %d", s, e)
		}
	}
	l := []Token{{Kind: Word, Text: "a"}, {Kind: End}, {Kind: Symbol, Text: "->"}, {Kind: String, Text: `x"y`}, {Kind: Number, Text: "3/4"}, {Kind: End, Text: "?"}}
	if s, e := Join(l); s != `a -> "x\"y" 3/4` || e != api.OK {
		t.Errorf("Join = %s, %d", s, e)
	}
	if s, e := Join(nil); s != "" || e != api.OK {
		t.Errorf("Join = %s, %d", s, e)
	}
	for i, x := range []Token{{Kind: Word, Text: "A"}, {Kind: Word, Text: "a b"}, {Kind: Word, Text: "7"}, {Kind: Number, Text: "a"}, {Kind: Number, Text: "2/4"}, {Kind: String, Text: "\n"}, {Kind: String, Text: strings.Repeat("x", api.MaxText+1)}, {Kind: Symbol, Text: "?"}, {Kind: Symbol, Text: ""}, {Kind: Symbol, Text: "a"}, {Kind: Word, Text: "a #"}, {Kind: 0, Text: "a"}, {Kind: 6, Text: "a"}} {
		if s, e := Join([]Token{{Kind: Word, Text: "a"}, x}); s != "" || e != api.ErrForm {
			t.Errorf("%d: Join = %s, %d", i, s, e)
		}
	}
}

// P35.3, P35.4
func TestPeekNextFailTake(t *testing.T) {
	r := New("a { \"a\"")
	if r.Peek() != (Token{Word, "a", 1, 1}) || r.Next() != (Token{Word, "a", 1, 1}) || r.Peek().Text != "{" {
		t.Error("Peek, Next")
	}
	if r.Is("a") || !r.Is("{") || r.Take("a") || !r.Take("{") || r.Is("a") || r.Take("a") {
		t.Error("Is, Take")
	}
	if _, _, e := r.Error(); e != api.OK || r.Peek().Kind != String {
		t.Errorf("Error: %d", e)
	}
	r.Next()
	end := Token{End, "", 1, 8}
	if r.Next() != end || r.Next() != end || r.Is("") || r.Take("") {
		t.Error("the End is taken")
	}
	r = New("x\n  y z")
	r.Expect("x")
	r.Fail(api.OK)
	if _, _, e := r.Error(); e != api.OK {
		t.Errorf("Fail(OK): %d", e)
	}
	r.Fail(api.ErrUnknown)
	r.Fail(api.ErrRange)
	if line, column, e := r.Error(); line != 2 || column != 3 || e != api.ErrUnknown {
		t.Errorf("Error = %d, %d, %d", line, column, e)
	}
	if want := (Token{End, "", 2, 3}); r.Peek() != want || r.Next() != want || r.Take("y") || r.Name() != "" {
		t.Errorf("Peek = %v", r.Peek())
	}
	r = New("x y")
	r.Expect("y")
	if line, column, e := r.Error(); line != 1 || column != 1 || e != api.ErrSyntax {
		t.Errorf("Expect: %d, %d, %d", line, column, e)
	}
}

// P35.5
func TestNameTextNumberInt(t *testing.T) {
	r := New(`a "b c" 3/4 - 5 -7/2 12 -12`)
	if s := r.Name(); s != "a" {
		t.Errorf("Name = %s", s)
	}
	if s := r.Text(); s != "b c" {
		t.Errorf("Text = %s", s)
	}
	if n, m, o := r.Number(), r.Number(), r.Number(); n != "3/4" || m != "-5" || o != "-7/2" {
		t.Errorf("Number = %s, %s, %s", n, m, o)
	}
	if n, m := r.Int(0, 12), r.Int(-12, 0); n != 12 || m != -12 {
		t.Errorf("Int = %d, %d", n, m)
	}
	r.Finish()
	if _, _, e := r.Error(); e != api.OK {
		t.Errorf("Error: %d", e)
	}
	name := func(r *Reader) any { return r.Name() }
	text := func(r *Reader) any { return r.Text() }
	number := func(r *Reader) any { return r.Number() }
	integer := func(low, high int) func(*Reader) any { return func(r *Reader) any { return r.Int(low, high) } }
	finish := func(r *Reader) any { r.Finish(); return "" }
	for i, c := range []struct {
		text   string
		f      func(*Reader) any
		zero   any
		column int
		e      api.Errno
	}{
		{`"a"`, name, "", 1, api.ErrSyntax}, {"7", name, "", 1, api.ErrSyntax}, {"", name, "", 1, api.ErrSyntax}, {"a", text, "", 1, api.ErrSyntax}, {"a", number, api.Number(""), 1, api.ErrSyntax}, {"- a", number, api.Number(""), 3, api.ErrSyntax}, {"--5", number, api.Number(""), 2, api.ErrSyntax}, {"-0", number, api.Number(""), 2, api.ErrForm}, {`- "5"`, number, api.Number(""), 3, api.ErrSyntax},
		{"12", integer(0, 9), 0, 1, api.ErrRange}, {"3/4", integer(0, 9), 0, 1, api.ErrRange}, {"-5", integer(-4, 9), 0, 1, api.ErrRange}, {"-3/4", integer(-4, 9), 0, 1, api.ErrRange}, {"99999999999999999999", integer(math.MinInt, math.MaxInt), 0, 1, api.ErrRange}, {"a", integer(0, 9), 0, 1, api.ErrSyntax}, {"- a", integer(0, 9), 0, 3, api.ErrSyntax}, {"-0", integer(-9, 9), 0, 2, api.ErrForm}, {"-", integer(-9, 9), 0, 2, api.ErrSyntax}, {"5", integer(9, 0), 0, 1, api.ErrRange}, {"0", integer(1, 9), 0, 1, api.ErrRange}, {"a", finish, "", 1, api.ErrSyntax}, {"-9223372036854775809", integer(math.MinInt, math.MaxInt), 0, 1, api.ErrRange},
	} {
		r := New(c.text)
		got := c.f(r)
		if line, column, e := r.Error(); got != c.zero || line != 1 || column != c.column || e != c.e {
			t.Errorf("%d: %v, %d, %d, %d", i, got, line, column, e)
		}
		if again := c.f(r); again != c.zero {
			t.Errorf("%d: behind the error %v", i, again)
		}
	}
	if n := New("-9223372036854775808").Int(math.MinInt, 0); n != math.MinInt {
		t.Errorf("Int = %d", n)
	}
	if n := New("0").Int(0, 0); n != 0 {
		t.Errorf("Int = %d", n)
	}
}

// P35.6
func TestNil(t *testing.T) {
	var r *Reader
	r.Expect("a")
	r.Finish()
	r.Fail(api.ErrRange)
	if r.Peek() != (Token{}) || r.Next() != (Token{}) || r.Is("") || r.Take("a") || r.Name() != "" || r.Text() != "" || r.Number() != "" || r.Int(0, 9) != 0 {
		t.Error("a nil reader has tokens")
	}
	if line, column, e := r.Error(); line != 0 || column != 0 || e != api.ErrArgument {
		t.Errorf("Error = %d, %d, %d", line, column, e)
	}
	r = New("a")
	r.Name()
	r.Finish()
	if line, column, e := r.Error(); line != 0 || column != 0 || e != api.OK {
		t.Errorf("Error = %d, %d, %d", line, column, e)
	}
}

// P35.7
func TestConsequences(t *testing.T) {
	r := rand.New(rand.NewSource(1))
	pieces := []string{"a", "b-c", "7", "3/4", `"x y"`, `"\""`, "->", "<=", "{", "-", "..", " ", "\n", "# c\n", "  ", "\n\n"}
	for range 300 {
		var texts [2]string
		for k := range texts {
			for range r.Intn(12) {
				texts[k] += pieces[r.Intn(len(pieces))] + []string{"", " "}[r.Intn(2)]
			}
		}
		first, _, _, e1 := Scan(texts[0])
		second, _, _, e2 := Scan(texts[1])
		if e1 != api.OK || e2 != api.OK {
			continue
		}
		for i := 1; i < len(first); i++ {
			if first[i].Line < first[i-1].Line || first[i].Line == first[i-1].Line && first[i].Column <= first[i-1].Column {
				t.Fatalf("the places of %q do not increase", texts[0])
			}
		}
		joined, e := Join(first)
		again, _, _, f := Scan(joined)
		if e != api.OK || f != api.OK || show(again) != show(first) {
			t.Fatalf("Join of %q = %q, %d", texts[0], joined, e)
		}
		both, _, _, e := Scan(texts[0] + "\n" + texts[1])
		lines := strings.Count(texts[0], "\n") + 1
		for i := range second {
			second[i].Line += lines
		}
		if want := append(first[:len(first)-1], second...); e != api.OK || fmt.Sprint(both) != fmt.Sprint(want) {
			t.Fatalf("%q, and behind it %q: %v", texts[0], texts[1], both)
		}
	}
}
