package margin

import (
	"strings"
	"testing"

	"dowel/api"
)

func TestCheck(t *testing.T) {
	long := api.Number(strings.Repeat("1", api.MaxNumber+1))
	for i, c := range []struct {
		low, high api.Number
		want      api.Errno
	}{
		{"", "", api.OK}, {"1", "", api.OK}, {"", "1", api.OK}, {"1/2", "1/2", api.OK}, {"2/3", "1/2", api.ErrOrder}, {"x", "1/0", api.ErrSyntax}, {"2", "1/0", api.ErrZero}, {long, "", api.ErrLong}, {"", "2/4", api.ErrForm},
	} {
		if e := Check(c.low, c.high); e != c.want {
			t.Errorf("%d: Check = %d", i, e)
		}
	}
}

func TestOf(t *testing.T) {
	long := api.Number(strings.Repeat("1", api.MaxNumber+1))
	for i, c := range []struct {
		low, high, least, greatest api.Number
		below, above               api.Number
		met                        bool
	}{
		{"", "", "1", "2", "", "", true}, {"1", "2", "1", "2", "0", "0", true}, {"1", "2", "1/2", "2", "-1/2", "0", false}, {"1", "2", "3/2", "5/2", "1/2", "-1/2", false}, {"1", "", "0", "9", "-1", "", false}, {"", "1", "0", "1/2", "", "1/2", true}, {"", "1", "0", long, "", "-" + long[:len(long)-1] + "0", false},
	} {
		if below, above, met := Of(c.low, c.high, c.least, c.greatest); below != c.below || above != c.above || met != c.met {
			t.Errorf("%d: Of = %s, %s, %t", i, below, above, met)
		}
	}
}
