package copies

import (
	"testing"

	"dowel/api"
	"dowel/document"
)

func product() api.Product {
	form := func() api.Form {
		return api.Form{Constant: "1", Terms: []api.Term{{Dimension: 0, Factor: "2"}}}
	}
	return api.Product{
		Name: "p",
		Assembly: api.Assembly{
			Parts:     []api.Part{{Name: "a", Density: 1, Cells: []api.Cell{{Vertices: []api.Vector{{1, 2, 3}}}}}},
			Instances: []api.Instance{{Name: "i", Part: "a"}},
		},
		Dimensions:   []api.Dimension{{Name: "d", Nominal: 3}},
		Constraints:  []api.Constraint{{Name: "c", Form: form()}},
		Requirements: []api.Requirement{{Name: "r", Gap: api.Expr{Op: api.OpMin, Args: []api.Expr{{Form: form()}}}, Low: "1"}},
	}
}

func TestProduct(t *testing.T) {
	p := product()
	q := Product(p)
	if !document.Equal(p, q) || !document.Equal(Product(api.Product{}), api.Product{}) {
		t.Fatalf("Product = %v", q)
	}
	q.Assembly.Parts[0].Cells[0].Vertices[0][1] = 9
	q.Assembly.Instances[0].Name = "x"
	q.Dimensions[0].Nominal = 9
	q.Constraints[0].Form.Terms[0].Factor = "9"
	q.Requirements[0].Gap.Args[0].Form.Terms[0].Factor = "9"
	if !document.Equal(p, product()) {
		t.Errorf("a copy shares memory: %v", p)
	}
}
