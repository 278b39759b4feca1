package catalogue

import (
	"fmt"
	"slices"
	"strings"
	"testing"

	"dowel/api"
	"dowel/assembly"
	"dowel/blocking"
	"dowel/force"
	"dowel/pair"
	"dowel/plan"
	"dowel/planner"
	"dowel/rational"
	"dowel/revision"
	"dowel/simulator"
	"dowel/solid"
	"dowel/stackup"
)

// recipes returns all valid recipes with some scales.
func recipes(scales ...int) []Recipe {
	var l []Recipe
	for kind := Stack; kind <= Tunnel; kind++ {
		least, most, _ := Most(kind)
		for n := least; n <= most; n++ {
			for _, s := range scales {
				l = append(l, Recipe{kind, n, s})
			}
		}
	}
	return l
}

// P55.1
func TestCheckMostNameAxes(t *testing.T) {
	for i, c := range []struct {
		r    Recipe
		want api.Errno
	}{
		{Recipe{Stack, 2, 1}, api.OK}, {Recipe{Stack, 6, 64}, api.OK}, {Recipe{Tunnel, 4, 1}, api.OK}, {Recipe{0, 99, 0}, api.ErrKind}, {Recipe{7, 2, 1}, api.ErrKind}, {Recipe{-1, 2, 1}, api.ErrKind}, {Recipe{Stack, 1, 1}, api.ErrRange}, {Recipe{Stack, 7, 1}, api.ErrRange}, {Recipe{Peg, 4, 1}, api.ErrRange}, {Recipe{Links, 1, 1}, api.ErrRange}, {Recipe{Links, 5, 1}, api.ErrRange}, {Recipe{Nest, 0, 1}, api.ErrRange}, {Recipe{Slide, 2, 0}, api.ErrRange}, {Recipe{Slide, 2, 65}, api.ErrRange}, {Recipe{Slide, 2, -1}, api.ErrRange},
	} {
		if e := Check(c.r); e != c.want {
			t.Errorf("%d: Check = %d", i, e)
		}
		p, e := Make(c.r)
		f, e2 := Known(c.r)
		if e != c.want || e2 != c.want || e != api.OK && (p.Name != "" || p.Assembly.Parts != nil || f.Moves != nil || f.Volume != 0 || f.Possible) {
			t.Errorf("%d: Make = %d, Known = %d", i, e, e2)
		}
	}
	for i, c := range []struct {
		name        string
		least, most int
	}{{"", 0, 0}, {"stack", 2, 6}, {"peg", 1, 3}, {"slide", 1, 3}, {"links", 2, 4}, {"nest", 1, 3}, {"tunnel", 1, 4}, {"", 0, 0}} {
		name, ok := Name(i)
		least, most, ok2 := Most(i)
		if name != c.name || least != c.least || most != c.most || ok != (c.name != "") || ok2 != ok {
			t.Errorf("%d: Name = %s, Most = %d, %d", i, name, least, most)
		}
	}
	axes := Axes()
	if fmt.Sprint(axes) != "[[1 0 0] [-1 0 0] [0 1 0] [0 -1 0] [0 0 1] [0 0 -1]]" {
		t.Errorf("Axes = %v", axes)
	}
	axes[0][0] = "9"
	if Axes()[0][0] != "1" {
		t.Error("memory is shared")
	}
}

// names returns the names of the instances.
func names(a api.Assembly) string {
	var l []string
	for _, x := range a.Instances {
		l = append(l, x.Name)
	}
	return strings.Join(l, " ")
}

// P55.2
func TestMake(t *testing.T) {
	for i, c := range []struct {
		r     Recipe
		names string
		cells []int
	}{
		{Recipe{Stack, 3, 1}, "c0 c1 c2", []int{1, 1, 1}}, {Recipe{Peg, 2, 1}, "plate p1 p2", []int{5, 1, 1}}, {Recipe{Slide, 2, 1}, "base s1 s2", []int{5, 2, 2}}, {Recipe{Links, 4, 1}, "r0 r1 r2 r3", []int{4, 4, 4, 4}}, {Recipe{Nest, 2, 1}, "box c1 c2 lid", []int{5, 1, 1, 1}}, {Recipe{Tunnel, 1, 1}, "tunnel c1", []int{5, 1}},
	} {
		p, e := Make(c.r)
		if e != api.OK || names(p.Assembly) != c.names || len(p.Assembly.Parts) != len(c.cells) {
			t.Fatalf("%d: Make = %v, %d", i, p, e)
		}
		for k, part := range p.Assembly.Parts {
			x := p.Assembly.Instances[k]
			if len(part.Cells) != c.cells[k] || part.Name != x.Name || x.Part != x.Name || part.Density != 1 || x.Place.Turn != [4]int{1, 0, 0, 0} || x.Place.Shift != (api.Point{"0", "0", "0"}) {
				t.Errorf("%d: %v, %v", i, part, x)
			}
		}
	}
	p, _ := Make(Recipe{Links, 2, 10})
	if ring := p.Assembly.Parts[1].Cells; fmt.Sprint(ring[2].Vertices) != "[[50 20 -20] [50 20 -10] [50 30 -20] [50 30 -10] [100 20 -20] [100 20 -10] [100 30 -20] [100 30 -10]]" {
		t.Errorf("the ring is %v", ring)
	}
	p, _ = Make(Recipe{Peg, 1, 2})
	if fmt.Sprint(p.Assembly.Parts[1].Cells) != "[{[[2 2 -2] [2 2 4] [2 4 -2] [2 4 4] [4 2 -2] [4 2 4] [4 4 -2] [4 4 4]]}]" || fmt.Sprint(p.Assembly.Parts[0].Cells[1].Vertices[0], p.Assembly.Parts[0].Cells[3].Vertices[7]) != "[4 2 0] [6 6 2]" {
		t.Errorf("the peg is %v, the plate %v", p.Assembly.Parts[1], p.Assembly.Parts[0])
	}
	p, _ = Make(Recipe{Nest, 3, 7})
	if p.Name != "nest" || fmt.Sprint(p.Dimensions) != "[{d0 7000 -1 2} {d1 7000 -2 4} {d2 7000 -3 6}]" || len(p.Constraints) != 0 || fmt.Sprint(p.Requirements) != "[{total {0 {0 [{0 1} {1 1} {2 1}]}  []} 20994 21012}]" {
		t.Errorf("Make = %v", p)
	}
	// Nothing is shared by two products.
	q, _ := Make(Recipe{Nest, 3, 7})
	p.Assembly.Parts[0].Cells[0].Vertices[0][0] = 99
	if r, _ := Make(Recipe{Nest, 3, 7}); !revision.Equal(q, r) {
		t.Error("memory is shared")
	}
}

// P55.3
func TestKnown(t *testing.T) {
	for i, c := range []struct {
		r    Recipe
		want string // of touching pairs, moves, joints, and the plan
	}{
		{Recipe{Stack, 2, 1}, "[[0 1]] [{0 0} {0 1} {0 2} {0 3} {0 5} {1 0} {1 1} {1 2} {1 3} {1 4}] [{0 1 6}] move 1 along 0 0 1"}, {Recipe{Peg, 1, 1}, "[[0 1]] [{0 4} {0 5} {1 4} {1 5}] [{0 1 2}] move 1 along 0 0 1"}, {Recipe{Slide, 2, 1}, "[[0 1] [0 2] [1 2]] [{0 2} {0 3} {1 3} {2 2}] [{0 1 2} {0 2 2} {1 2 6}] move 2 along 0 1 0;move 1 along 0 1 0"}, {Recipe{Slide, 1, 1}, "[[0 1]] [{0 2} {0 3} {1 2} {1 3}] [{0 1 2}] move 1 along 0 1 0"}, {Recipe{Links, 3, 2}, "[] [] [] "},
		{Recipe{Nest, 3, 1}, "[[0 1] [0 2] [0 3] [0 4] [1 2] [1 4] [2 3] [2 4] [3 4]] [{0 5} {4 0} {4 1} {4 2} {4 3} {4 4}] [{0 1 0} {0 2 2} {0 3 0} {0 4 6} {1 2 6} {1 4 6} {2 3 6} {2 4 6} {3 4 6}] move 4 along 0 0 1;move 1 along 0 0 1;move 2 along 0 0 1;move 3 along 0 0 1"}, {Recipe{Tunnel, 2, 1}, "[[0 1] [0 2] [1 2]] [{0 1} {2 0}] [{0 1 0} {0 2 2} {1 2 6}] move 2 along 1 0 0;move 1 along 1 0 0"},
	} {
		f, e := Known(c.r)
		text := ""
		if f.Possible {
			text, _ = plan.Text(f.Plan, len(f.Plan.Steps)+1)
			lines := strings.Split(strings.TrimSpace(text), "\n")
			if lines[0] != "plan far most 1" || len(lines) < 8 {
				t.Errorf("%d: the plan is %s", i, text)
			}
			text = strings.Join(lines[7:], ";")
		}
		if got := fmt.Sprint(f.Touching, f.Moves, f.Joints, " ", text); got != c.want || e != api.OK {
			t.Errorf("%d: Known = %s, %d", i, got, e)
		}
	}
	f, _ := Known(Recipe{Links, 3, 2})
	if f.Possible || f.Stands || f.Volume != 480 || f.Least != 5994 || f.Greatest != 6012 || !plan.Equal(f.Plan, api.Plan{}) {
		t.Errorf("Known = %v", f)
	}
}

// P55.4
func TestFactsAreFound(t *testing.T) {
	for _, r := range recipes(1, 3) {
		p, _ := Make(r)
		f, _ := Known(r)
		if e := revision.Check(p); e != api.OK {
			t.Fatalf("%v: Check = %d", r, e)
		}
		pairs, _ := assembly.Pairs(p.Assembly)
		var touching [][2]int
		for _, x := range pairs {
			if x.Status != api.Touching {
				t.Errorf("%v: %v", r, x)
			}
			touching = append(touching, [2]int{x.A, x.B})
		}
		if !slices.Equal(touching, f.Touching) {
			t.Errorf("%v: the pairs are %v", r, touching)
		}
		entries, e := pair.Table(p.Assembly)
		var joints []Joint
		for _, x := range entries {
			joints = append(joints, Joint{x.A, x.B, x.Joint.Kind})
		}
		if !slices.Equal(joints, f.Joints) || e != api.OK {
			t.Errorf("%v: the joints are %v, %d", r, joints, e)
		}
		checkMoves(t, r, p.Assembly, f)
		checkPlan(t, r, p.Assembly, f)
		checkNumbers(t, r, p, f)
	}
}

// all returns the instances from one on.
func all(a api.Assembly, from int) []int {
	var l []int
	for i := from; i < len(a.Instances); i++ {
		l = append(l, i)
	}
	return l
}

func checkMoves(t *testing.T, r Recipe, a api.Assembly, f Facts) {
	scene, e := blocking.Open(a)
	if e != api.OK {
		t.Fatalf("Open: %d", e)
	}
	var moves []Move
	for i := range a.Instances {
		for axis, d := range Axes() {
			if is, _ := scene.Movable(all(a, 0), []int{i}, d, api.Far); is {
				moves = append(moves, Move{i, axis})
			}
		}
	}
	if !slices.Equal(moves, f.Moves) {
		t.Errorf("%v: the moves are %v", r, moves)
	}
}

func checkPlan(t *testing.T, r Recipe, a api.Assembly, f Facts) {
	_, e := planner.Sequential(a, api.Kind{Blocking: api.Far, Directions: Axes()}, 1)
	if (e == api.OK) != f.Possible {
		t.Errorf("%v: Sequential = %d", r, e)
	}
	if !f.Possible {
		return
	}
	if is, e := plan.Complete(f.Plan, len(a.Instances)); !is || e != api.OK {
		t.Errorf("%v: the plan is not complete, %d", r, e)
	}
	if e := planner.Verify(a, f.Plan); e != api.OK {
		t.Errorf("%v: Verify = %d", r, e)
	}
	if report, e := simulator.Run(a, f.Plan); !report.Clear || len(report.Left) != 1 || e != api.OK {
		t.Errorf("%v: Run = %v, %d", r, report, e)
	}
}

func checkNumbers(t *testing.T, r Recipe, p api.Product, f Facts) {
	s := force.System{Assembly: p.Assembly, Free: all(p.Assembly, 1), Held: []int{0}, Gravity: api.Point{"0", "0", "-1"}}
	if x, e := force.Balance(s); x.Stands != f.Stands || e != api.OK {
		t.Errorf("%v: Balance = %t, %d", r, x.Stands, e)
	}
	solids, _ := assembly.Place(p.Assembly)
	var volume rational.Rat
	for _, x := range solids {
		volume = rational.Add(volume, solid.Volume(x))
	}
	if n, _ := volume.Int(); n != f.Volume {
		t.Errorf("%v: the volume is %d", r, n)
	}
	report, e := stackup.Examine(stackup.Problem{Dimensions: p.Dimensions}, p.Requirements[0])
	if e != api.OK || !report.Met || report.Least.Value != number(f.Least) || report.Greatest.Value != number(f.Greatest) || report.Below != "0" || report.Above != "0" {
		t.Errorf("%v: Examine = %v, %d", r, report, e)
	}
}

// P55.4: the greatest scale.
func TestScale(t *testing.T) {
	for _, r := range recipes(MaxScale) {
		p, _ := Make(r)
		f, _ := Known(r)
		if e := revision.Check(p); e != api.OK {
			t.Errorf("%v: Check = %d", r, e)
		}
		g, _ := Known(Recipe{r.Kind, r.Count, 1})
		if f.Volume != g.Volume*MaxScale*MaxScale*MaxScale || !slices.Equal(f.Moves, g.Moves) || !slices.Equal(f.Joints, g.Joints) || !plan.Equal(f.Plan, g.Plan) {
			t.Errorf("%v: Known = %v", r, f)
		}
	}
}
