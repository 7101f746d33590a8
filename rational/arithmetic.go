package rational

import (
	"priceoffice/api"
	"priceoffice/natural"
)

// Negate returns -x.
func Negate(x api.Ratio) api.Ratio {
	return reduced(!x.Neg, x.Num, denominator(x))
}

// Add returns x + y.
func Add(x, y api.Ratio) api.Ratio {
	left, right := denominator(x), denominator(y)
	neg, num := signedSum(x.Neg, natural.Mul(x.Num, right), y.Neg, natural.Mul(y.Num, left))
	return reduced(neg, num, natural.Mul(left, right))
}

// signedSum returns the sign and the absolute value of a + b, where each of them is negative if the bool before it says
// so.
func signedSum(negA bool, a api.Nat, negB bool, b api.Nat) (bool, api.Nat) {
	if negA == negB {
		return negA, natural.Add(a, b)
	}
	if difference, ok := natural.Sub(a, b); ok {
		return negA, difference
	}
	difference, _ := natural.Sub(b, a)
	return negB, difference
}

// Sub returns x - y.
func Sub(x, y api.Ratio) api.Ratio {
	y.Neg = !y.Neg
	return Add(x, y)
}

// Mul returns x times y.
func Mul(x, y api.Ratio) api.Ratio {
	return reduced(x.Neg != y.Neg, natural.Mul(x.Num, y.Num), natural.Mul(denominator(x), denominator(y)))
}

// Quo returns x / y.
func Quo(x, y api.Ratio) (api.Ratio, api.Errno) {
	if Sign(y) == 0 {
		return api.Ratio{}, api.ErrRationalZero
	}
	return reduced(x.Neg != y.Neg, natural.Mul(x.Num, denominator(y)), natural.Mul(denominator(x), y.Num)), api.OK
}

// Power returns x to the power k, which may be negative.
func Power(x api.Ratio, k int) (api.Ratio, api.Errno) {
	if k == 0 {
		return FromInt(1), api.OK
	}
	base := Normalize(x)
	if Sign(base) == 0 && k < 0 {
		return api.Ratio{}, api.ErrRationalZero
	}
	neg := base.Neg && k&1 == 1
	den := denominator(base)
	size := max(natural.Bits(base.Num), natural.Bits(den))
	if size == 1 {
		// The powers of 0, 1 and -1 have no limit.
		return lowest(neg, base.Num, den), api.OK
	}
	// The least integer is its own negative, and as a uint its own absolute value.
	exponent := uint(max(k, -k))
	if exponent > uint(api.MaxBits/size) {
		return api.Ratio{}, api.ErrRationalSize
	}
	num, _ := natural.Power(base.Num, int(exponent))
	den, _ = natural.Power(den, int(exponent))
	if k < 0 {
		num, den = den, num
	}
	return lowest(neg, num, den), api.OK
}

// Sum returns the sum of a list.
func Sum(list []api.Ratio) api.Ratio {
	total := api.Ratio{}
	fold(list, func(x api.Ratio) { total = Add(total, x) })
	return total
}

// fold lets take have the numbers of list, one after the other.
func fold(list []api.Ratio, take func(api.Ratio)) {
	for _, x := range list {
		take(x)
	}
}
