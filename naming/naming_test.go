package naming

import (
	"strings"
	"testing"

	"dowel/api"
)

func TestIs(t *testing.T) {
	for s, want := range map[string]bool{"": false, "a": true, "!~": true, "a b": false, "\x7f": false, "\x00": false, "ä": false, strings.Repeat("x", api.MaxName): true, strings.Repeat("x", api.MaxName+1): false} {
		if Is(s) != want {
			t.Errorf("Is(%q) = %t", s, !want)
		}
	}
}

func TestIsFile(t *testing.T) {
	for s, want := range map[string]bool{"": false, "a": true, "z-0.9": true, "..": true, "-": true, "A": false, "a_b": false, "a b": false, "a/b": false, "`": false, "{": false, "ä": false, strings.Repeat("x", api.MaxName): true, strings.Repeat("x", api.MaxName+1): false} {
		if IsFile(s) != want {
			t.Errorf("IsFile(%q) = %t", s, !want)
		}
	}
}

func TestSet(t *testing.T) {
	s := Set{}
	for i, c := range []struct {
		name string
		want api.Errno
	}{{"a", api.OK}, {"b", api.OK}, {"a", api.ErrDuplicate}, {"a b", api.ErrName}, {"a b", api.ErrName}, {"A", api.OK}} {
		if e := s.Add(c.name); e != c.want {
			t.Errorf("%d: Add = %d", i, e)
		}
	}
}
