package label

import (
	"strings"
	"testing"

	"dowel/api"
)

func TestText(t *testing.T) {
	for name, want := range map[string]string{"a": "a", "a-1": "a-1", "x_y": "x_y", "1a": `"1a"`, "A": `"A"`, "a.b": `"a.b"`, `a"b\`: `"a\"b\\"`, "a#b": `"a#b"`, "#": `"#"`, "": `""`, strings.Repeat("a", api.MaxName): strings.Repeat("a", api.MaxName)} {
		if s := Text(name); s != want {
			t.Errorf("Text(%q) = %s", name, s)
		}
	}
}
