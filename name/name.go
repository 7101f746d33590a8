// Package name recognizes the names of shared/DOC.md, which several layers have.
package name

import "priceoffice/api"

// Valid reports whether a string is a name.
func Valid(s string) bool {
	if len(s) == 0 || len(s) > api.MaxName {
		return false
	}
	for i := range len(s) {
		switch b := s[i]; {
		case b >= 'a' && b <= 'z', b >= '0' && b <= '9':
		case i > 0 && (b == '-' || b == '.'):
		default:
			return false
		}
	}
	return true
}
