package radical

import (
	"priceoffice/api"
	"priceoffice/natural"
	"priceoffice/rational"
)

// factor is a value with its exponent.
type factor struct {
	value    api.Ratio
	exponent int
}

// rootOf returns the degree-th root of the product of the factors.
func rootOf(factors []factor, degree int) (api.Radical, api.Errno) {
	lowest, e := lowestTerms(factors, degree)
	if e != api.OK {
		return api.Radical{}, e
	}
	return canonical(product(lowest), degree), api.OK
}

// lowestTerms returns the factors with canonical values, or the error of a root of their product.
func lowestTerms(factors []factor, degree int) ([]factor, api.Errno) {
	for _, f := range factors {
		if rational.Sign(f.value) <= 0 {
			return nil, api.ErrRadicalValue
		}
	}
	if !validDegree(degree) {
		return nil, api.ErrRadicalDegree
	}
	lowest := make([]factor, 0, len(factors))
	rest := uint(api.MaxEffort)
	for _, f := range factors {
		f.value = rational.Normalize(f.value)
		size := bits(f.value)
		// The least integer is its own negative, and as a uint its own absolute value.
		times := uint(max(f.exponent, -f.exponent))
		// Where the effort is above the rest, their product may be too large for a uint, but the quotient never is.
		if times > rest/size {
			return nil, api.ErrRadicalSize
		}
		rest -= times * size
		lowest = append(lowest, f)
	}
	return lowest, api.OK
}

// bits returns the bits of a canonical number.
func bits(x api.Ratio) uint {
	return uint(natural.Bits(x.Num) + natural.Bits(denominator(x)))
}

// denominator returns the denominator of a canonical number. The result may share the memory of x.
func denominator(x api.Ratio) api.Nat {
	if len(x.Den) == 0 {
		return natural.FromUint(1)
	}
	return x.Den
}

// product returns the product of factors whose effort is within the limit, so that no power of theirs is too large.
func product(factors []factor) api.Ratio {
	num, den := natural.FromUint(1), natural.FromUint(1)
	for _, f := range factors {
		over, under := f.value.Num, denominator(f.value)
		if f.exponent < 0 {
			over, under = under, over
		}
		times := max(f.exponent, -f.exponent)
		num = natural.Mul(num, power(over, times))
		den = natural.Mul(den, power(under, times))
	}
	result, _ := rational.New(num, den)
	return result
}

// power returns n^k for a power that is within the limits of layer 1.
func power(n api.Nat, k int) api.Nat {
	result, _ := natural.Power(n, k)
	return result
}
