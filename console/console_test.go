package console

import (
	"fmt"
	"slices"
	"strings"
	"testing"

	"dowel/api"
	"dowel/assembly"
	"dowel/catalogue"
	"dowel/document"
	"dowel/inspection"
	"dowel/pair"
	"dowel/plan"
)

const small = "load product p; dimension a = 10 [-1, 1]; require r: [0 + 2 * a] to 21;"

// with returns a console that has carried out some lines.
func with(t *testing.T, lines ...string) *Console {
	t.Helper()
	c := New()
	for _, line := range lines {
		if _, e := c.Do(line); e != api.OK {
			t.Fatalf("%s: %d", line, e)
		}
	}
	return c
}

// cubes returns the line that loads cubes of the edge 1, by their names and places along x.
func cubes(places ...string) string {
	text := "load product cubes; part cube density 1 { cell (0, 0, 0) (0, 0, 1) (0, 1, 0) (0, 1, 1) (1, 0, 0) (1, 0, 1) (1, 1, 0) (1, 1, 1); }"
	for _, x := range places {
		name, at, _ := strings.Cut(x, " ")
		text += " instance " + name + " of cube turn (1, 0, 0, 0) shift (" + at + ", 0, 0);"
	}
	return text
}

// made returns the line that loads a product of the catalogue.
func made(t *testing.T, kind, count int) string {
	p, e := catalogue.Make(catalogue.Recipe{Kind: kind, Count: count, Scale: 1})
	text, e2 := document.Print(p)
	if e+e2 != api.OK {
		t.Fatalf("Make: %d, Print: %d", e, e2)
	}
	return "load " + strings.ReplaceAll(text, "\n", " ")
}

// state returns all that a console has.
func state(c *Console) string {
	p, isProduct := c.Product()
	q, isPlan := c.Plan()
	return fmt.Sprint(p, isProduct, q, isPlan, c.Measurements())
}

// answered is a line and what is answered.
type answered struct {
	line, answer string
	e            api.Errno
}

// checkAnswers carries out lines, each of which must leave the state as it is if it has an error.
func checkAnswers(t *testing.T, c *Console, l []answered) {
	t.Helper()
	for _, x := range l {
		before := state(c)
		answer, e := c.Do(x.line)
		if answer != x.answer || e != x.e {
			t.Errorf("%s: %q, %d", x.line, answer, e)
		}
		if e != api.OK && state(c) != before {
			t.Errorf("%s: the state has changed", x.line)
		}
	}
}

// The examples of the document.
func TestExamples(t *testing.T) {
	checkAnswers(t, New(), []answered{
		{"pair a b", "", api.ErrState}, {"paint", "", api.ErrUnknown}, {"(", "", api.ErrSyntax},
		{small, "p: 0 parts, 0 instances, 1 dimensions, 1 requirements", 0}, {"worst [0 - 1 * a]", "from -11 to -9", 0}, {"need r", "not met, from 18 to 22", 0},
		{"measure a 9 10", "a from 9 to 10", 0}, {"judge r", "met, from 18 to 20", 0}, {"next", "nothing to measure", 0},
	})
}

// P56.1: errors before those of the commands.
func TestErrorsOfLines(t *testing.T) {
	long := strings.Repeat("x", 41)
	for _, c := range []*Console{New(), with(t, small)} {
		checkAnswers(t, c, []answered{
			{"", "", 0}, {"    ", "", 0}, {"# a comment", "", 0}, {"  # load", "", 0}, {"paint\n", "", api.ErrSyntax}, {"\n", "", api.ErrSyntax}, {"load product p;\n", "", api.ErrSyntax},
			{"paint " + long, "", api.ErrLong}, {"paint 007", "", api.ErrForm}, {"paint \"x", "", api.ErrTruncated}, {"paint ?", "", api.ErrSyntax}, {"\tprint", "", api.ErrSyntax}, {strings.Repeat(" ", api.MaxBytes+1), "", api.ErrLong}, {"\"print\"", "", api.ErrSyntax}, {"5", "", api.ErrSyntax}, {"loads", "", api.ErrUnknown}, {"load-1", "", api.ErrUnknown}, {"loadproduct p;", "", api.ErrUnknown}, {"load" + strings.Repeat("x", 50), "", api.ErrLong}, {"Print", "", api.ErrSyntax},
			{"load", "", api.ErrSyntax}, {"load x", "", api.ErrSyntax}, {"load product p; part", "", api.ErrSyntax}, {"load \x01", "", api.ErrSyntax}, {"load product p; dimension a = 10 [1, -1];", "", api.ErrOrder}, {"load product p; dimension a = 07 [1, 1];", "", api.ErrForm}, {"load \"x", "", api.ErrTruncated}, {"load product " + long + ";", "", api.ErrLong}, {"load product p; # " + strings.Repeat("x", api.MaxBytes), "", api.ErrLong},
		})
	}
	c := New()
	for _, word := range Commands() {
		if word != "load" {
			checkAnswers(t, c, []answered{{word, "", api.ErrState}, {word + " ( 5", "", api.ErrState}, {word + " 007", "", api.ErrForm}})
		}
	}
	checkAnswers(t, with(t, small), []answered{{"follow (", "", api.ErrState}, {"follow (0, 0, 1) 1", "", api.ErrState}})
	checkAnswers(t, New(), []answered{{"   load(product p;", "", api.ErrSyntax}, {"  load product p;# load", "p: 0 parts, 0 instances, 0 dimensions, 0 requirements", 0}, {"load\"p\"", "", api.ErrSyntax}})
}

// P56.1: what follows the words.
func TestErrorsOfReading(t *testing.T) {
	c := with(t, cubes("a 0", "b 1"), "plan one far (1, 0, 0) (-1, 0, 0)")
	checkAnswers(t, c, []answered{
		{"print x", "", api.ErrSyntax}, {"check 5", "", api.ErrSyntax}, {"touch a", "", api.ErrSyntax}, {"next a", "", api.ErrSyntax}, {"forget 1", "", api.ErrSyntax},
		{"pair a", "", api.ErrSyntax}, {"pair a (", "", api.ErrSyntax}, {"pair a b c", "", api.ErrSyntax}, {"pair z b c", "", api.ErrSyntax}, {"pair a 5", "", api.ErrSyntax}, {"pair a z", "", api.ErrNotFound}, {"pair z y", "", api.ErrNotFound}, {"pair \"a\" \"b c\"", "", api.ErrNotFound}, {"pair a a", "", api.ErrConflict},
		{"arcs far", "", api.ErrSyntax}, {"arcs near (1, 0, 0)", "", api.ErrSyntax}, {"arcs far 1, 0, 0", "", api.ErrSyntax}, {"arcs far (1 0 0)", "", api.ErrSyntax}, {"arcs far (1, 0, 0", "", api.ErrSyntax}, {"arcs far (1, 0)", "", api.ErrSyntax}, {"arcs far (1, 0, a)", "", api.ErrSyntax}, {"arcs far (-0, 0, 1)", "", api.ErrForm}, {"arcs far (1, 0, 0) 1", "", api.ErrSyntax}, {"arcs far (2, 0, 0)", "", api.ErrForm}, {"arcs local (0, 0, 0)", "", api.ErrZero}, {"arcs local (1/2, 0, 0)", "", api.ErrForm},
		{"sets far (1, 0, 0)", "", api.ErrSyntax}, {"sets far (1, 0, 0) -1", "", api.ErrRange}, {"sets far (1, 0, 0) 1048577", "", api.ErrRange}, {"sets far (1, 0, 0) 1/2", "", api.ErrRange}, {"sets far (1, 0, 0) 1 1", "", api.ErrSyntax}, {"sets far (0, 0, 0) 1", "", api.ErrZero},
		{"plan far", "", api.ErrSyntax}, {"plan three far", "", api.ErrSyntax}, {"plan one", "", api.ErrSyntax}, {"plan one far 1", "", api.ErrSyntax}, {"plan two far (1, 0, 0) x", "", api.ErrSyntax}, {"plan one far (2, 0, 0)", "", api.ErrForm}, {"plan two far (1, 0, 0) (1, 0, 0)", "", api.ErrDuplicate},
		{"follow (0, 0, 1)", "", api.ErrSyntax}, {"follow (0, 0, 1) a", "", api.ErrSyntax}, {"follow (0, 0, 1) 1 z", "", api.ErrNotFound}, {"follow (0, 0, 1) 1 a (", "", api.ErrSyntax}, {"follow (0, 0, 1) 13", "", api.ErrRange}, {"follow (0, 0, 1) 1048577 z", "", api.ErrRange},
		{"stands", "", api.ErrSyntax}, {"stands (0, 0, 1) z", "", api.ErrNotFound}, {"stands (0, 0, 1) 5", "", api.ErrSyntax},
		{"need", "", api.ErrSyntax}, {"need r s", "", api.ErrSyntax}, {"need r", "", api.ErrNotFound}, {"judge", "", api.ErrSyntax}, {"judge a", "", api.ErrNotFound}, {"measure a", "", api.ErrSyntax}, {"measure a 1", "", api.ErrSyntax}, {"measure a 1 2 3", "", api.ErrSyntax}, {"measure a 1 2", "", api.ErrNotFound}, {"measure a 1 1073741825", "", api.ErrRange}, {"measure a -1073741825 1", "", api.ErrRange}, {"measure a 1/2 1", "", api.ErrRange},
		{"worst", "", api.ErrSyntax}, {"worst [0 + 1 * a]", "", api.ErrUnknown}, {"worst [1] [1]", "", api.ErrSyntax}, {"worst foo", "", api.ErrSyntax}, {"worst [1]", "from 1 to 1", 0},
	})
	if _, ok := c.Plan(); !ok {
		t.Error("the plan is lost")
	}
}

// P56.1: load and print.
func TestLoadAndPrint(t *testing.T) {
	c := with(t, cubes("a 0"), "plan one far")
	checkAnswers(t, c, []answered{
		{"load product \"1p\"; dimension \"x y\"", "", api.ErrName}, {"load product \"1p\"; dimension \"x.y\" = 1 [0, 0]; dimension b = -2 [0, 1]; constraint \"c.\": [1 - 2/3 * b] <= 0; require r: abs([0 + 1 * \"x.y\"]) from -1/2;", "\"1p\": 0 parts, 0 instances, 2 dimensions, 1 requirements", 0}, {"print", "product \"1p\";\ndimension \"x.y\" = 1 [0, 0];\ndimension b = -2 [0, 1];\nconstraint \"c.\": [1 - 2/3 * b] <= 0;\nrequire r: abs([0 + 1 * \"x.y\"]) from -1/2;", 0}, {"need r", "", api.ErrInfeasible}, {"measure \"x.y\" 1 1", "\"x.y\" from 1 to 1", 0},
	})
	if _, ok := c.Plan(); ok {
		t.Error("the plan of the product before is there")
	}
	checkAnswers(t, c, []answered{{"load product p", "", api.ErrSyntax}, {"load product p;", "p: 0 parts, 0 instances, 0 dimensions, 0 requirements", 0}, {"forget", "0 forgotten", 0}})
	p, ok := with(t, cubes("a 0", "b 1/3")).Product()
	if !ok || len(p.Assembly.Instances) != 2 || p.Assembly.Instances[1].Place.Shift[0] != "1/3" {
		t.Errorf("Product = %v", p)
	}
	// What is loaded from few bytes can have a text that is too long to be read.
	text := "load product p;"
	var sum strings.Builder
	for i := range 64 {
		name := fmt.Sprint("dimension", 10+i)
		text += "dimension " + name + "=0[0,0];"
		sum.WriteString("+1*" + name)
	}
	for i := range 64 {
		text += fmt.Sprintf("require r%d:[0%s];", i, sum.String())
	}
	checkAnswers(t, with(t, text), []answered{{"print", "", api.ErrLong}, {"need r5", "met, from 0 to 0", 0}})
}

// P56.1: what touches, and what is blocked.
func TestAssemblies(t *testing.T) {
	checkAnswers(t, with(t, cubes("a 0", "b 1", "c 3/2", "d 9")), []answered{
		{"check", "b and c penetrate", 0}, {"touch", "a touches b\nb meets c", 0}, {"arcs far (1, 0, 0)", "", api.ErrPenetrate}, {"arcs far (0, 0, 0)", "", api.ErrPenetrate}, {"sets far (0, 0, 0) 9", "", api.ErrPenetrate}, {"plan one far", "", api.ErrPenetrate}, {"stands (0, 0, 1)", "", api.ErrPenetrate}, {"pair a b", "", api.ErrPenetrate},
	})
	checkAnswers(t, with(t, cubes("a 0", "b 1", "c 2")), []answered{
		{"check", "sound", 0}, {"touch", "a touches b\nb touches c", 0}, {"pair a b", "planar, 3 open", 0}, {"pair \"c\" a", "free, 6 closed", 0}, {"arcs local (1, 0, 0)", "a -> b\nb -> c", 0}, {"arcs far (1, 0, 0)", "a -> b\na -> c\nb -> c", 0}, {"arcs far (0, 0, 1)", "", 0}, {"sets far (1, 0, 0) 0", "c\nb c", 0}, {"sets far (1, 0, 0) 1", "c", 0}, {"sets local (-1, 0, 0) 1048576", "a\na b", 0}, {"sets far (0, 0, 1) 1", "a\nb\nc", 0}, {"check # comment", "sound", 0},
	})
	checkAnswers(t, with(t, cubes("a 0")), []answered{{"touch", "", 0}, {"arcs far (1, 0, 0)", "", 0}, {"sets far (1, 0, 0) 0", "", 0}, {"check", "sound", 0}})
	checkAnswers(t, with(t, "load product p;"), []answered{{"touch", "", 0}, {"check", "sound", 0}, {"arcs far (1, 0, 0)", "", api.ErrEmpty}, {"sets far (0, 0, 0) 0", "", api.ErrEmpty}, {"plan one far", "", api.ErrEmpty}, {"stands (0, 0, 1)", "", api.ErrEmpty}})
	// The text of a product says nothing about its geometry.
	flat := "load product p; part q density 1 { cell (0, 0, 0); } part r density 1 { } instance i of q turn (1, 0, 0, 0) shift (0, 0, 0);"
	twice := strings.Replace(cubes("a 0"), "(1, 1, 1);", "(1, 1, 1); cell (0, 0, 0) (0, 0, 1) (0, 1, 0) (0, 1, 1) (1, 0, 0) (1, 0, 1) (1, 1, 0) (1, 1, 1);", 1)
	checkAnswers(t, with(t, flat), []answered{{"check", "", api.ErrFlat}, {"touch", "", api.ErrFlat}, {"pair i i", "", api.ErrFlat}, {"arcs far (0, 0, 0)", "", api.ErrFlat}})
	checkAnswers(t, with(t, twice), []answered{{"check", "", api.ErrPenetrate}})
	checkAnswers(t, with(t, cubes("\"B\" 0", "a 1")), []answered{{"check", "", api.ErrName}, {"pair \"B\" a", "", api.ErrName}, {"pair a \"C\"", "", api.ErrNotFound}})
}

// P56.1: plans.
func TestPlans(t *testing.T) {
	row := with(t, cubes("a 0", "b 1", "c 2"))
	checkAnswers(t, row, []answered{
		{"follow (0, 0, -1) 1", "", api.ErrState}, {"plan one far (-1, 0, 0)", "plan far most 1\nkind -1 0 0\nmove 0 along -1 0 0\nmove 1 along -1 0 0", 0}, {"plan two local (0, 0, 1)", "plan local most 0\nkind 0 0 1\nsplit 0,1,2 moving 0 along 0 0 1\nsplit 1,2 moving 1 along 0 0 1", 0}, {"follow (0, 0, -1) 1", "", api.ErrKind},
	})
	if p, ok := row.Plan(); !ok || len(p.Splits) != 2 || p.Kind.Blocking != api.Local {
		t.Errorf("Plan = %v", p)
	}
	checkAnswers(t, row, []answered{{"plan one far (0, 0, 1)", "plan far most 1\nkind 0 0 1\nmove 1 along 0 0 1\nmove 2 along 0 0 1", 0}})
	if text, e := row.Do("plan one far"); e != api.OK || !strings.HasPrefix(text, "plan far most 1\nmove ") {
		t.Errorf("plan: %s, %d", text, e)
	}
	lock := with(t, made(t, catalogue.Tunnel, 2), "plan one far (1, 0, 0)")
	checkAnswers(t, lock, []answered{
		{"plan one far (0, 0, 1)", "stuck tunnel c1 c2", 0}, {"follow (0, 0, 1) 1", "", api.ErrState}, {"plan two far (1, 0, 0)", "plan far most 0\nkind 1 0 0\nsplit 0,1,2 moving 2 along 1 0 0\nsplit 0,1 moving 1 along 1 0 0", 0}, {"plan two far (0, 0, 1)", "stuck tunnel c1 c2", 0}, {"follow (0, 0, 1) 1", "", api.ErrState},
	})
	if _, ok := lock.Plan(); ok {
		t.Error("there is a plan, although everything is stuck")
	}
	nest := with(t, made(t, catalogue.Nest, 2))
	checkAnswers(t, nest, []answered{{"plan one far (1, 0, 0)", "stuck box c1 c2", 0}, {"plan two far (1, 0, 0)", "stuck box c1 c2", 0}})
	// A plan stays when another one has an error.
	nest.Do("plan one far (0, 0, 1)")
	before, _ := nest.Plan()
	checkAnswers(t, nest, []answered{{"plan one far (0, 0, 2)", "", api.ErrForm}})
	if after, ok := nest.Plan(); !ok || !plan.Equal(before, after) {
		t.Errorf("Plan = %v", after)
	}
}

// P56.1: what stands, and what has to be held.
func TestStability(t *testing.T) {
	stack := with(t, made(t, catalogue.Stack, 3), "plan one far (0, 0, 1)")
	checkAnswers(t, stack, []answered{
		{"stands (0, 0, -1) c0", "stands", 0}, {"stands (0, 0, -1)", "falls", 0}, {"stands (0, 0, 0)", "stands", 0}, {"stands (0, 0, -1) c2 c1 c0 c1", "stands", 0}, {"stands (0, 0, -1/2) \"c1\"", "falls", 0}, {"stands (1, 0, 0) c0", "falls", 0},
		{"follow (0, 0, -1) 1 c0", "0:\n1:\n2:", 0}, {"follow (0, 0, -1) 1", "0: c0\n1: c0\n2: c0", 0}, {"follow (0, 0, -1) 0", "0 fails", 0}, {"follow (0, 0, 1) 1 c0 c1 c0", "0: c2\n1:\n2:", 0}, {"follow (0, 0, 1) 0 c0 c1", "0 fails", 0}, {"follow (0, 0, 1) 1 c1 c2", "0:\n1:\n2: c0", 0}, {"follow (0, 0, -1) 0 c2", "0 fails", 0}, {"follow (1, 0, 0) 2 c1", "0: c0 c2\n1: c0\n2: c0", 0},
	})
	slide := with(t, made(t, catalogue.Stack, 2), "plan one far (0, 0, -1)")
	checkAnswers(t, slide, []answered{{"follow (0, 0, -1) 0 c0", "0:\n1 fails", 0}})
}

// P56.1: tolerances and measurements.
func TestTolerances(t *testing.T) {
	text := "load product p; dimension a = 100 [-2, 2]; dimension b = 40 [-1, 1]; dimension c = 0 [0, 0]; constraint k: [0 + 1 * c] <= 0; require gap: [0 + 1 * a - 1 * b] from 58 to 62; require bent: abs([0 + 1 * b]) to 41; require wrong: [0 + 1 * b] from 50;"
	c := with(t, text)
	checkAnswers(t, c, []answered{
		{"worst [0 + 1 * a - 1/2 * b]", "from 155/2 to 165/2", 0}, {"worst max(abs([0 - 1 * b]), [40])", "from 40 to 41", 0}, {"worst scale -1 ([0 + 1 * a])#x", "from -102 to -98", 0}, {"need gap", "not met, from 57 to 63", 0}, {"need bent", "met, from 39 to 41", 0}, {"need \"wrong\"", "not met, from 39 to 41", 0}, {"judge gap", "open, from 57 to 63", 0}, {"judge wrong", "violated, from 39 to 41", 0}, {"judge bent", "", api.ErrKind}, {"next", "measure a", 0},
		{"measure a 99 102", "a from 99 to 102", 0}, {"judge gap", "open, from 58 to 63", 0}, {"need gap", "not met, from 57 to 63", 0}, {"next", "measure b", 0}, {"measure a 90 101", "a from 99 to 101", 0}, {"judge gap", "met, from 58 to 62", 0}, {"next", "nothing to measure", 0}, {"measure a 103 104", "", api.ErrConflict}, {"measure a 2 1", "", api.ErrEmpty}, {"measure b 41 41", "b from 41 to 41", 0}, {"measure a -1073741824 100", "a from 99 to 100", 0}, {"forget", "2 forgotten", 0}, {"judge gap", "open, from 57 to 63", 0},
		{"measure c -1 -1", "c from -1 to -1", 0}, {"judge gap", "open, from 57 to 63", 0}, {"forget", "1 forgotten", 0}, {"measure c 1 2", "c from 1 to 2", 0}, {"judge gap", "", api.ErrInfeasible}, {"next", "", api.ErrInfeasible}, {"measure b -1073741824 1073741824", "b from -1073741824 to 1073741824", 0}, {"judge gap", "", api.ErrRange}, {"forget", "2 forgotten", 0},
	})
	checkAnswers(t, with(t, text, "measure b 5 6", "measure a 1 2"), []answered{{"measure c 3 4", "c from 3 to 4", 0}})
	if l := with(t, text, "measure b 5 6", "measure a 1 2").Measurements(); !slices.Equal(l, []inspection.Measurement{{Dimension: 0, Low: 1, High: 2}, {Dimension: 1, Low: 5, High: 6}}) {
		t.Errorf("Measurements = %v", l)
	}
}

// P56.2
func TestStateAndClone(t *testing.T) {
	if l := Commands(); strings.Join(l, " ") != "arcs check follow forget judge load measure need next pair plan print sets stands touch worst" {
		t.Errorf("Commands = %v", l)
	}
	var none *Console
	p, isProduct := none.Product()
	q, isPlan := none.Plan()
	answer, e := none.Do("\n")
	answers, line, e2 := none.Run(strings.Repeat("x", api.MaxBytes+1))
	if p.Name != "" || isProduct || q.Steps != nil || isPlan || none.Measurements() != nil || none.Clone() != nil || answer != "" || e != api.ErrArgument || answers != nil || line != 0 || e2 != api.ErrArgument {
		t.Errorf("a nil console has something, or the errors %d, %d", e, e2)
	}
	if p, ok := New().Product(); ok || p.Name != "" || len(New().Measurements()) != 0 {
		t.Errorf("Product = %v", p)
	}
	c := with(t, strings.TrimSuffix(cubes("a 0", "b 1"), " ")+" dimension x = 1 [0, 0]; require r: [0 + 1 * x];", "plan two far (1, 0, 0)", "measure x 1 2")
	before := state(c)
	d := c.Clone()
	if state(d) != before {
		t.Errorf("the clone has %s", state(d))
	}
	p, _ = c.Product()
	p.Assembly.Parts[0].Cells[0].Vertices[0][0], p.Requirements[0].Gap.Form.Terms[0].Dimension, p.Dimensions[0].Name = 9, 9, "z"
	q, _ = c.Plan()
	q.Splits[0].Moved[0], q.Kind.Directions[0][0] = 9, "9"
	c.Measurements()[0].Low = 9
	must := func(lines ...string) {
		for _, line := range lines {
			if _, e := d.Do(line); e != api.OK {
				t.Fatalf("%s: %d", line, e)
			}
		}
	}
	must("measure x 2 3", "plan one far (-1, 0, 0)")
	if state(c) != before {
		t.Errorf("the console has %s, not %s", state(c), before)
	}
	must("load product other;")
	if state(c) != before {
		t.Error("a clone shares the product")
	}
}

// P56.3
func TestRun(t *testing.T) {
	for i, c := range []struct {
		script  string
		answers []string
		line    int
		e       api.Errno
	}{
		{"", []string{""}, 0, 0}, {"\n", []string{"", ""}, 0, 0}, {small + "\n# nothing\nneed r\n", []string{"p: 0 parts, 0 instances, 1 dimensions, 1 requirements", "", "not met, from 18 to 22", ""}, 0, 0}, {"need r", nil, 1, api.ErrState}, {small + "\n\nneed s\nforget", []string{"p: 0 parts, 0 instances, 1 dimensions, 1 requirements", ""}, 3, api.ErrNotFound}, {small + "\r\nnext", nil, 1, api.ErrSyntax}, {strings.Repeat("\n", api.MaxBytes) + "\n", nil, 0, api.ErrLong}, {small + "\n" + strings.Repeat(" ", api.MaxBytes), nil, 0, api.ErrLong},
	} {
		console := New()
		answers, line, e := console.Run(c.script)
		if !slices.Equal(answers, c.answers) || line != c.line || e != c.e {
			t.Errorf("%d: Run = %q, %d, %d", i, answers, line, e)
		}
		if _, ok := console.Product(); ok != (len(c.answers) > 1 && c.answers[0] != "") {
			t.Errorf("%d: the product is there: %t", i, ok)
		}
	}
	if answers, line, e := New().Run(strings.Repeat("\n", api.MaxBytes)); len(answers) != api.MaxBytes+1 || line != 0 || e != api.OK {
		t.Errorf("Run = %d answers, %d, %d", len(answers), line, e)
	}
}

// P56.4
func TestScripts(t *testing.T) {
	lines := []string{"", small, "measure a 9 11", "need r", "judge r", "next", "worst abs([0 + 1 * a])", cubes("a 0", "b 1", "c 3"), "check", "touch", "pair a b", "arcs far (1, 0, 0)", "sets far (1, 0, 0) 0", "plan one far (1, 0, 0)", "follow (0, 0, -1) 2 a", "stands (0, 0, -1) a b c", "plan two far", "print", "forget", made(t, catalogue.Peg, 2), "touch", "pair plate p1", "need total", "measure d0 999 1001", "judge total", "next", "print"}
	whole := New()
	want, line, e := whole.Run(strings.Join(lines, "\n"))
	if line != 0 || e != api.OK || len(want) != len(lines) {
		t.Fatalf("Run = %q, %d, %d", want, line, e)
	}
	for cut := range lines {
		c := New()
		first, _, _ := c.Run(strings.Join(lines[:cut+1], "\n"))
		var second []string
		if cut+1 < len(lines) {
			second, _, _ = c.Run(strings.Join(lines[cut+1:], "\n"))
		}
		if !slices.Equal(append(first, second...), want) || state(c) != state(whole) {
			t.Errorf("divided behind the line %d, the script has other answers", cut+1)
		}
	}
	c := New()
	for i, text := range lines {
		before := state(c)
		answer, _ := c.Do(text)
		word, _, _ := strings.Cut(text, " ")
		if word == "load" || word == "plan" || word == "measure" || word == "forget" {
			continue
		}
		again, e := c.Do(text)
		if answer != want[i] || again != answer || e != api.OK || state(c) != before {
			t.Errorf("%s: %q, and then %q, %d", text, answer, again, e)
		}
	}
	// What is printed can be loaded.
	text, _ := whole.Do("print")
	p, _ := whole.Product()
	q, ok := with(t, "load "+strings.ReplaceAll(text, "\n", " ")).Product()
	if !ok || !document.Equal(p, q) {
		t.Errorf("loaded again, the product is %v", q)
	}
}

// The pairs of a product of the catalogue, asked for one by one.
func TestPairs(t *testing.T) {
	c := with(t, made(t, catalogue.Nest, 3))
	p, _ := c.Product()
	facts, _ := catalogue.Known(catalogue.Recipe{Kind: catalogue.Nest, Count: 3, Scale: 1})
	for _, j := range facts.Joints {
		name, _ := pair.Name(j.Kind)
		answer, e := c.Do("pair " + p.Assembly.Instances[j.A].Name + " " + p.Assembly.Instances[j.B].Name)
		if e != api.OK || !strings.HasPrefix(answer, name+", ") {
			t.Errorf("pair: %s, %d, not %s", answer, e, name)
		}
	}
	if _, _, e := assembly.Sound(p.Assembly); e != api.OK {
		t.Errorf("Sound: %d", e)
	}
}
