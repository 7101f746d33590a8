package rational

import (
	"strconv"
	"strings"

	"priceoffice/api"
	"priceoffice/natural"
)

// maxWhole is the greatest number of digits before the point that Parse accepts.
const maxWhole = 30

// Round returns the multiple of 10^-digits nearest to x, halves away from zero.
func Round(x api.Ratio, digits int) api.Ratio {
	places := decimals(digits)
	return reduced(x.Neg, scaled(x, places), tens(places))
}

// Format returns Round(x, digits) with so many decimals.
func Format(x api.Ratio, digits int) string {
	places := decimals(digits)
	units := scaled(x, places)
	text := natural.Format(units)
	if places > 0 {
		// There is at least one digit before the point.
		text = strings.Repeat("0", max(0, places+1-len(text))) + text
		point := len(text) - places
		text = text[:point] + "." + text[point:]
	}
	if x.Neg && len(units) > 0 {
		return "-" + text
	}
	return text
}

// Parse reads a decimal number.
func Parse(s string) (api.Ratio, api.Errno) {
	text, neg := strings.CutPrefix(s, "-")
	whole, fraction, pointed := strings.Cut(text, ".")
	num, e := natural.Parse(whole)
	if e != api.OK || len(whole) > maxWhole {
		return api.Ratio{}, api.ErrRationalForm
	}
	if pointed {
		part, ok := fractionDigits(fraction)
		if !ok {
			return api.Ratio{}, api.ErrRationalForm
		}
		num = natural.Add(natural.Mul(num, tens(len(fraction))), part)
	}
	if neg && len(num) == 0 {
		return api.Ratio{}, api.ErrRationalForm
	}
	return reduced(neg, num, tens(len(fraction))), api.OK
}

// fractionDigits returns the number that the digits after a point denote, and whether s is a valid list of them.
func fractionDigits(s string) (api.Nat, bool) {
	if len(s) > api.MaxDecimals {
		return nil, false
	}
	value, err := strconv.ParseUint(s, 10, 64)
	if err != nil {
		return nil, false
	}
	return natural.FromUint(value), true
}

// decimals returns the number of decimals that digits stands for.
func decimals(digits int) int {
	return min(max(digits, 0), api.MaxDecimals)
}

// tens returns 10^k.
func tens(k int) api.Nat {
	power, _ := natural.Power(natural.FromUint(10), k)
	return power
}

// scaled returns the integer nearest to the absolute value of x times 10^places, the greater one of two.
func scaled(x api.Ratio, places int) api.Nat {
	den := denominator(x)
	// The integer part of y + 1/2 is that of (2 num + den) / (2 den), where y is num / den.
	twice := natural.Mul(natural.Mul(x.Num, tens(places)), natural.FromUint(2))
	nearest, _, _ := natural.Divide(natural.Add(twice, den), natural.Mul(den, natural.FromUint(2)))
	return nearest
}
