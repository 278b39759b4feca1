// Package naming tells names from other texts, and finds those that occur twice. It serves the layers that check what people name.
package naming

import "dowel/api"

// Is reports whether a string is a name: 1 to api.MaxName bytes from 33 to 126.
func Is(s string) bool {
	for i := range len(s) {
		if s[i] < 33 || s[i] > 126 {
			return false
		}
	}
	return len(s) > 0 && len(s) <= api.MaxName
}

// IsFile reports whether a string is the name of a file: 1 to api.MaxName bytes from a to z, from 0 to 9, periods and hyphens.
func IsFile(s string) bool {
	for i := range len(s) {
		isLetter := s[i] >= 'a' && s[i] <= 'z' || s[i] >= '0' && s[i] <= '9' || s[i] == '.' || s[i] == '-'
		if !isLetter {
			return false
		}
	}
	return len(s) > 0 && len(s) <= api.MaxName
}

// Set is names that must not occur again.
type Set map[string]bool

// Add adds a name, or returns its error: ErrName if it is none, or ErrDuplicate.
func (s Set) Add(name string) api.Errno {
	if !Is(name) {
		return api.ErrName
	}
	if s[name] {
		return api.ErrDuplicate
	}
	s[name] = true
	return api.OK
}
