package natural

import "priceoffice/api"

// GCD returns the greatest common divisor.
func GCD(a, b api.Nat) api.Nat {
	x, y := Trim(a), Trim(b)
	if Compare(x, y) < 0 {
		x, y = y, x
	}
	for len(x) > 2 && len(y) > 0 {
		x, y = reduce(x, y)
	}
	if len(y) == 0 {
		return x
	}
	u, _ := Uint(x)
	v, _ := Uint(y)
	for v != 0 {
		u, v = v, u%v
	}
	return FromUint(u)
}

// reduce takes one or more steps of Euclid's algorithm from x and y, where x is at least y, to a later pair.
func reduce(x, y api.Nat) (api.Nat, api.Nat) {
	c := simulate(x, y)
	if c.y0 == 0 {
		_, rest, _ := Divide(x, y)
		return y, rest
	}
	if c.odd {
		return difference(c.y0, y, c.x0, x), difference(c.x1, x, c.y1, y)
	}
	return difference(c.x0, x, c.y0, y), difference(c.y1, y, c.x1, x)
}

// cofactors says how a pair of Euclid's algorithm follows from its first pair x, y: it is x0*x - y0*y, y1*y - x1*x,
// with both signs changed if the number of steps in between is odd. All of them are below 2^32.
type cofactors struct {
	x0, x1, y0, y1 uint64
	odd            bool
}

// simulate follows Euclid's algorithm on the 64 highest bits of x, and the bits of y at the same places, as long as they
// are sure to give the quotients of x and y themselves (Lehmer's algorithm with Collins' condition). So most steps need
// no long numbers. No step is sure if y0 is 0.
func simulate(x, y api.Nat) cofactors {
	low := Bits(x) - 64
	u, v := window(x, low), window(y, low)
	// The loop looks one step ahead: its first turn ends with the pair x, y itself, after no step.
	c := cofactors{x1: 1, odd: true}
	x2, y2 := uint64(0), uint64(1)
	for v >= y2 && u-v >= c.y1+y2 {
		quotient := u / v
		u, v = v, u%v
		c.x0, c.x1, x2 = c.x1, x2, c.x1+quotient*x2
		c.y0, c.y1, y2 = c.y1, y2, c.y1+quotient*y2
		c.odd = !c.odd
	}
	return c
}

// window returns the 64 bits of n from the bit low on.
func window(n api.Nat, low int) uint64 {
	whole, part := low/limbBits, low%limbBits
	pair := limb(n, whole+1)<<limbBits | limb(n, whole)
	return pair>>part | limb(n, whole+2)<<(2*limbBits-part)
}

// difference returns p*x - q*y, which is at least 0 and at most the greater one of x and y; p and q are below 2^32.
func difference(p uint64, x api.Nat, q uint64, y api.Nat) api.Nat {
	result := make(api.Nat, max(len(x), len(y)))
	plus, minus, borrow := uint64(0), uint64(0), uint64(0)
	for i := range len(result) {
		plus += p * limb(x, i)
		minus += q * limb(y, i)
		rest := plus&(1<<limbBits-1) - minus&(1<<limbBits-1) - borrow
		result[i] = uint32(rest)
		plus, minus, borrow = plus>>limbBits, minus>>limbBits, rest>>63
	}
	return significant(result)
}
