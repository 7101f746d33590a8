package classification

import (
	"strconv"
	"strings"

	"priceoffice/api"
)

const (
	maxLevel  = 5
	maxPart   = 99
	separator = "."
)

// Parse returns the parts of a code.
func Parse(code string) ([]int, api.Errno) {
	// A longer string is refused before it is split into any number of parts.
	if len(code) > len("99.99.99.99.99") {
		return nil, api.ErrClassificationCode
	}
	var parts []int
	for _, text := range strings.Split(code, separator) {
		// What is no number, or is not written as Format writes it, shows in the comparison below.
		part, _ := strconv.Atoi(text)
		parts = append(parts, part)
	}
	if text, e := Format(parts); e != api.OK || text != code {
		return nil, api.ErrClassificationCode
	}
	return parts, api.OK
}

// Format returns the code with these parts.
func Format(parts []int) (string, api.Errno) {
	if len(parts) == 0 || len(parts) > maxLevel {
		return "", api.ErrClassificationParts
	}
	code := ""
	for i, part := range parts {
		switch {
		case part < 1 || part > maxPart:
			return "", api.ErrClassificationParts
		case i > 0:
			code += separator
		case part < 10:
			code = "0"
		}
		code += strconv.Itoa(part)
	}
	return code, api.OK
}

// Level returns the number of parts of a code, 0 for "", or -1.
func Level(code string) int {
	parts, ok := partsOf(code)
	if !ok {
		return -1
	}
	return len(parts)
}

// partsOf returns the parts of a code, and none for "". It returns false for other strings.
func partsOf(code string) ([]int, bool) {
	if code == "" {
		return nil, true
	}
	parts, e := Parse(code)
	return parts, e == api.OK
}

// Parent returns the code one level up.
func Parent(code string) (string, bool) {
	if _, e := Parse(code); e != api.OK {
		return "", false
	}
	return code[:max(0, strings.LastIndex(code, separator))], true
}

// Path returns the ancestors of a code and the code itself.
func Path(code string) []string {
	parent, ok := Parent(code)
	if !ok {
		return nil
	}
	return append(Path(parent), code)
}
