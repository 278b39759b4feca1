package system

import (
	"fmt"
	"testing"

	"dowel/api"
)

func TestRows(t *testing.T) {
	f := api.Form{Constant: "-7/2", Terms: []api.Term{{Dimension: 0, Factor: "1/3"}, {Dimension: 2, Factor: "-5"}}}
	dimensions := []api.Dimension{{Nominal: 10, Lower: -1, Upper: 2}, {Nominal: -5}, {Nominal: 0, Lower: 3, Upper: 4}}
	want := "[{[1 0 0] 12} {[-1 0 0] -9} {[0 1 0] -5} {[0 -1 0] 5} {[0 0 1] 4} {[0 0 -1] -3} {[1/3 0 -5] 7/2}]"
	if rows := Rows(dimensions, []api.Constraint{{Form: f}}); fmt.Sprint(rows) != want {
		t.Errorf("Rows = %v", rows)
	}
	if row := Row(4, f); fmt.Sprint(row) != "{[1/3 0 -5 0] 7/2}" {
		t.Errorf("Row = %v", row)
	}
	if l := Coefficients(3, f, SignFor(false)); fmt.Sprint(l) != "[-1/3 0 5]" {
		t.Errorf("Coefficients = %v", l)
	}
	if rows := Rows(nil, []api.Constraint{{Form: api.Form{Constant: "1"}}}); fmt.Sprint(rows) != "[{[] -1}]" {
		t.Errorf("Rows = %v", rows)
	}
}
