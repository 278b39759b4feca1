package plan

import (
	"iter"
	"strconv"
	"strings"

	"dowel/api"
)

// Text returns the text of a plan.
func Text(p api.Plan, n int) (string, api.Errno) {
	if e := Check(p, n); e != api.OK {
		return "", e
	}
	blocking := "far"
	if p.Kind.Blocking == api.Local {
		blocking = "local"
	}
	lines := []string{"plan " + blocking + " most " + strconv.Itoa(p.Most)}
	for _, d := range p.Kind.Directions {
		lines = append(lines, "kind "+numbers(d))
	}
	for _, s := range p.Steps {
		line := "move " + indices(s.Moved) + " along " + numbers(s.Direction)
		if s.Distance != "" {
			line += " by " + string(s.Distance)
		}
		lines = append(lines, line)
	}
	for _, s := range p.Splits {
		lines = append(lines, "split "+indices(s.Whole)+" moving "+indices(s.Moved)+" along "+numbers(s.Direction))
	}
	return strings.Join(lines, "\n") + "\n", api.OK
}

func numbers(d api.Point) string {
	return string(d[0] + " " + d[1] + " " + d[2])
}

func indices(l []int) string {
	words := make([]string, len(l))
	for i, k := range l {
		words[i] = strconv.Itoa(k)
	}
	return strings.Join(words, ",")
}

// lines yields the lines of a text, each with its number, and whether a line feed ends it.
func lines(s string) iter.Seq2[int, line] {
	return func(yield func(int, line) bool) {
		for number := 1; s != ""; number++ {
			text, rest, isEnded := strings.Cut(s, "\n")
			if !yield(number, line{strings.Split(text, " "), isEnded}) {
				return
			}
			s = rest
		}
	}
}

// line is the words of a line.
type line struct {
	words   []string
	isEnded bool
}

// Parse returns the plan with a text, or the number of the first wrong line.
func Parse(s string, n int) (p api.Plan, number int, e api.Errno) {
	if len(s) > api.MaxBytes {
		return api.Plan{}, 0, api.ErrLong
	}
	if s == "" {
		return api.Plan{}, 1, api.ErrEmpty
	}
	for i, l := range lines(s) {
		if !l.isEnded || !read(&p, i, l.words) {
			return api.Plan{}, i, api.ErrSyntax
		}
	}
	if e := Check(p, n); e != api.OK {
		return api.Plan{}, 0, e
	}
	return p, 0, api.OK
}

// read adds what the words of a line say to a plan; false if the line has not the form of one that can stand there.
func read(p *api.Plan, number int, words []string) bool {
	for _, w := range words {
		if w == "" {
			return false
		}
	}
	if number == 1 {
		return readPlan(p, words)
	}
	switch words[0] {
	case "kind":
		if len(words) != 4 || len(p.Steps) > 0 || len(p.Splits) > 0 {
			return false
		}
		p.Kind.Directions = append(p.Kind.Directions, pointOf(words[1:]))
		return true
	case "move":
		return len(p.Splits) == 0 && readMove(p, words)
	case "split":
		return len(p.Steps) == 0 && readSplit(p, words)
	}
	return false
}

func pointOf(words []string) api.Point {
	return api.Point{api.Number(words[0]), api.Number(words[1]), api.Number(words[2])}
}

func readPlan(p *api.Plan, words []string) bool {
	if len(words) != 4 || words[0] != "plan" || words[2] != "most" {
		return false
	}
	switch words[1] {
	case "far":
		p.Kind.Blocking = api.Far
	case "local":
		p.Kind.Blocking = api.Local
	default:
		return false
	}
	var ok bool
	p.Most, ok = decimal(words[3])
	return ok
}

func readMove(p *api.Plan, words []string) bool {
	hasDistance := len(words) == 8 && words[6] == "by"
	if len(words) != 6 && !hasDistance || words[2] != "along" {
		return false
	}
	moved, ok := list(words[1])
	s := api.Step{Moved: moved, Direction: pointOf(words[3:])}
	if hasDistance {
		s.Distance = api.Number(words[7])
	}
	p.Steps = append(p.Steps, s)
	return ok
}

func readSplit(p *api.Plan, words []string) bool {
	if len(words) != 8 || words[2] != "moving" || words[4] != "along" {
		return false
	}
	whole, isWhole := list(words[1])
	moved, isMoved := list(words[3])
	p.Splits = append(p.Splits, api.Split{Whole: whole, Moved: moved, Direction: pointOf(words[5:])})
	return isWhole && isMoved
}

// list returns the decimal numbers between commas.
func list(word string) ([]int, bool) {
	var l []int
	for part := range strings.SplitSeq(word, ",") {
		k, ok := decimal(part)
		if !ok {
			return nil, false
		}
		l = append(l, k)
	}
	return l, true
}

// decimal returns a number of at most 6 digits, without superfluous zeros.
func decimal(word string) (int, bool) {
	if len(word) < 1 || len(word) > 6 || len(word) > 1 && word[0] == '0' {
		return 0, false
	}
	k := 0
	for i := range len(word) {
		if word[i] < '0' || word[i] > '9' {
			return 0, false
		}
		k = 10*k + int(word[i]-'0')
	}
	return k, true
}
