// Package label writes names so that they can be read again. It serves the layers that print texts (36 and 56).
package label

import (
	"dowel/api"
	"dowel/lexer"
)

// Text returns a name as a word if it is one, and otherwise as a string.
func Text(name string) string {
	if l, _, _, e := lexer.Scan(name); e == api.OK && l[0].Kind == lexer.Word && l[0].Text == name {
		return name
	}
	quoted, _ := lexer.Quote(name)
	return quoted
}
