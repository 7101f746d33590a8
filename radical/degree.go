package radical

import (
	"priceoffice/api"
	"priceoffice/natural"
)

// canonical returns the degree-th root of a canonical positive value with the least degree.
func canonical(value api.Ratio, degree int) api.Radical {
	for _, prime := range primeDivisors(degree) {
		for degree%prime == 0 {
			root, exact := exactRoot(value, prime)
			if !exact {
				break
			}
			value, degree = root, degree/prime
		}
	}
	return api.Radical{Value: value, Degree: degree}
}

// exactRoot returns the k-th root of a canonical value and true if it is rational.
func exactRoot(value api.Ratio, k int) (api.Ratio, bool) {
	num, exact, _ := natural.Root(value.Num, k)
	if !exact {
		return api.Ratio{}, false
	}
	// An empty denominator, which stands for 1, has an empty root.
	den, exact, _ := natural.Root(value.Den, k)
	if !exact {
		return api.Ratio{}, false
	}
	return api.Ratio{Num: num, Den: den}, true
}

// integer is what a generic helper divides without loss.
type integer interface {
	~int | ~int32 | ~int64 | ~uint | ~uint32 | ~uint64
}

// primeDivisors returns the primes that divide n, which is positive, in ascending order.
func primeDivisors[T integer](n T) []T {
	var primes []T
	for p := T(2); p <= n/p; p++ {
		if n%p == 0 {
			primes = append(primes, p)
		}
		for n%p == 0 {
			n /= p
		}
	}
	if n > 1 {
		primes = append(primes, n)
	}
	return primes
}

// greatestDivisor returns the greatest common divisor of two positive numbers.
func greatestDivisor[T integer](a, b T) T {
	for b != 0 {
		a, b = b, a%b
	}
	return a
}

func validDegree(degree int) bool {
	return degree >= 1 && degree <= api.MaxDegree
}

// commonDegree returns the least common multiple of two degrees and its quotients by each of them. If one of them is not
// valid, all are 0, which is no valid degree.
func commonDegree(a, b int) (int, int, int) {
	if !validDegree(a) || !validDegree(b) {
		return 0, 0, 0
	}
	shared := greatestDivisor(a, b)
	return a / shared * b, b / shared, a / shared
}

// degreeProduct returns a times b, or 0, which is no valid degree, if one of them is not valid.
func degreeProduct(a, b int) int {
	if !validDegree(a) || !validDegree(b) {
		return 0
	}
	return a * b
}
