package classification

import (
	"cmp"
	"slices"
	"strings"
)

// Within reports whether a code is an ancestor or below it.
func Within(code, ancestor string) bool {
	parts, ok := partsOf(code)
	beginning, too := partsOf(ancestor)
	if !ok || !too {
		return false
	}
	_, equal := compareParts(parts, beginning)
	return equal == len(beginning)
}

// Common returns the longest code that both are within.
func Common(a, b string) string {
	left, ok := partsOf(a)
	right, too := partsOf(b)
	if !ok || !too {
		return ""
	}
	_, equal := compareParts(left, right)
	// No parts have no code, and the result is "" then.
	code, _ := Format(left[:equal])
	return code
}

// Compare orders codes part by part.
func Compare(a, b string) int {
	left, ok := partsOf(a)
	right, too := partsOf(b)
	switch {
	case ok && too:
		order, _ := compareParts(left, right)
		return order
	case ok:
		return -1
	case too:
		return 1
	}
	return strings.Compare(a, b)
}

// compareParts returns the order of two lists of parts, and how many parts both begin with.
func compareParts(a, b []int) (order, equal int) {
	compare := func(x, y int) int {
		// The comparison of the lists ends at the first parts that differ.
		if x == y {
			equal++
		}
		return cmp.Compare(x, y)
	}
	order = slices.CompareFunc(a, b, compare)
	return order, equal
}
