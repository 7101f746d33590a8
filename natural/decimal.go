package natural

import (
	"strconv"
	"strings"

	"priceoffice/api"
)

// A limb holds the value of groupDigits decimal digits, which is below groupBase.
const (
	groupDigits = 9
	groupBase   = 1000000000
)

// Parse reads a decimal number.
func Parse(s string) (api.Nat, api.Errno) {
	switch {
	case !decimal(s):
		return nil, api.ErrNaturalForm
	case len(s) > api.MaxDigits:
		return nil, api.ErrNaturalDigits
	}
	var n api.Nat
	for len(s) > 0 {
		// The first group takes what the full groups leave.
		size := (len(s)-1)%groupDigits + 1
		n = Add(Mul(n, FromUint(groupBase)), FromUint(groupValue(s[:size])))
		s = s[size:]
	}
	return n, api.OK
}

// decimal reports whether s is "0" or digits of which the first one is not 0.
func decimal(s string) bool {
	for i := range len(s) {
		if s[i] < '0' || s[i] > '9' {
			return false
		}
	}
	return s == "0" || s != "" && s[0] != '0'
}

// groupValue returns the value of at most groupDigits digits.
func groupValue(digits string) uint64 {
	value := uint64(0)
	for i := range len(digits) {
		value = value*10 + uint64(digits[i]-'0')
	}
	return value
}

// Format returns n in decimal digits.
func Format(n api.Nat) string {
	groups := decimalGroups(n)
	if len(groups) == 0 {
		return "0"
	}
	var text strings.Builder
	for i := range len(groups) {
		digits := strconv.FormatUint(uint64(groups[len(groups)-1-i]), 10)
		if i > 0 {
			text.WriteString(strings.Repeat("0", groupDigits-len(digits)))
		}
		text.WriteString(digits)
	}
	return text.String()
}

// decimalGroups returns the digits of n in base groupBase, the lowest one first.
func decimalGroups(n api.Nat) []uint32 {
	var groups []uint32
	rest := Trim(n)
	for len(rest) > 0 {
		groups = append(groups, divideInPlace(rest, groupBase))
		rest = significant(rest)
	}
	return groups
}
