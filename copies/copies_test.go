package copies

import (
	"testing"

	"dowel/api"
	"dowel/document"
	"dowel/plan"
)

func product() api.Product {
	form := func() api.Form {
		return api.Form{Constant: "1", Terms: []api.Term{{Dimension: 0, Factor: "2"}}}
	}
	return api.Product{
		Name: "p",
		Assembly: api.Assembly{
			Parts:     []api.Part{{Name: "a", Density: 1, Cells: []api.Cell{{Vertices: []api.Vector{{1, 2, 3}}}}}},
			Instances: []api.Instance{{Name: "i", Part: "a"}},
		},
		Dimensions:   []api.Dimension{{Name: "d", Nominal: 3}},
		Constraints:  []api.Constraint{{Name: "c", Form: form()}},
		Requirements: []api.Requirement{{Name: "r", Gap: api.Expr{Op: api.OpMin, Args: []api.Expr{{Form: form()}}}, Low: "1"}},
	}
}

func TestProduct(t *testing.T) {
	p := product()
	q := Product(p)
	if !document.Equal(p, q) || !document.Equal(Product(api.Product{}), api.Product{}) {
		t.Fatalf("Product = %v", q)
	}
	q.Assembly.Parts[0].Cells[0].Vertices[0][1] = 9
	q.Assembly.Instances[0].Name = "x"
	q.Dimensions[0].Nominal = 9
	q.Constraints[0].Form.Terms[0].Factor = "9"
	q.Requirements[0].Gap.Args[0].Form.Terms[0].Factor = "9"
	if !document.Equal(p, product()) {
		t.Errorf("a copy shares memory: %v", p)
	}
}

func TestPlan(t *testing.T) {
	up := api.Point{"0", "0", "1"}
	steps := func() api.Plan {
		return api.Plan{Kind: api.Kind{Blocking: api.Far, Directions: []api.Point{up}}, Most: 1, Steps: []api.Step{{Moved: []int{1}, Direction: up, Distance: "2"}}}
	}
	splits := func() api.Plan {
		return api.Plan{Kind: api.Kind{Blocking: api.Local}, Splits: []api.Split{{Whole: []int{0, 1}, Moved: []int{1}, Direction: up}}}
	}
	p, q := steps(), splits()
	a, b := Plan(p), Plan(q)
	if !plan.Equal(a, p) || !plan.Equal(b, q) || !plan.Equal(Plan(api.Plan{}), api.Plan{}) {
		t.Fatalf("Plan = %v, %v", a, b)
	}
	a.Kind.Directions[0][0], a.Steps[0].Moved[0] = "9", 9
	b.Splits[0].Whole[0], b.Splits[0].Moved[0] = 9, 9
	if !plan.Equal(p, steps()) || !plan.Equal(q, splits()) {
		t.Errorf("a copy shares memory: %v, %v", p, q)
	}
}
