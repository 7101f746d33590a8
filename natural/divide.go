package natural

import (
	"math/bits"

	"priceoffice/api"
)

// Divide returns the quotient and the remainder of a by b, and false if b is 0.
func Divide(a, b api.Nat) (api.Nat, api.Nat, bool) {
	x, y := significant(a), significant(b)
	switch {
	case len(y) == 0:
		return nil, nil, false
	case len(y) > len(x):
		return nil, Trim(x), true
	case len(y) == 1:
		quotient := Trim(x)
		remainder := divideInPlace(quotient, y[0])
		return significant(quotient), FromUint(uint64(remainder)), true
	}
	quotient, remainder := divideLong(x, y)
	return quotient, remainder, true
}

// divideInPlace makes n its quotient by divisor and returns the remainder.
func divideInPlace(n api.Nat, divisor uint32) uint32 {
	remainder := uint64(0)
	for i := range len(n) {
		place := len(n) - 1 - i
		part := remainder<<limbBits | uint64(n[place])
		n[place] = uint32(part / uint64(divisor))
		remainder = part % uint64(divisor)
	}
	return uint32(remainder)
}

// divideLong divides a by b, which has at least two limbs and not more than a, neither of them with a high zero limb.
// It is algorithm D of Knuth's The Art of Computer Programming, section 4.3.1.
func divideLong(a, b api.Nat) (api.Nat, api.Nat) {
	// With its highest bit set, the two highest limbs of the divisor nearly determine each digit of the quotient.
	shift := bits.LeadingZeros32(b[len(b)-1])
	divisor := shiftLeft(b, shift)
	rest := make(api.Nat, len(a)+1)
	copy(rest, shiftLeft(a, shift))
	quotient := make(api.Nat, len(a)-len(b)+1)
	for i := range len(quotient) {
		place := len(quotient) - 1 - i
		part := rest[place : place+len(divisor)+1]
		digit := quotientDigit(part, divisor)
		if subtractMultiple(part, divisor, digit) {
			digit--
			addBack(part, divisor)
		}
		quotient[place] = digit
	}
	return significant(quotient), shiftRight(rest, shift)
}

// quotientDigit returns the quotient of part by divisor, or one more. The quotient is below 2^32.
func quotientDigit(part, divisor api.Nat) uint32 {
	const base = 1 << limbBits
	size := len(divisor)
	high, next := uint64(divisor[size-1]), uint64(divisor[size-2])
	top := uint64(part[size])<<limbBits | uint64(part[size-1])
	third := uint64(part[size-2])
	digit, rest := top/high, top%high
correct:
	for {
		switch {
		case digit >= base || digit*next > rest<<limbBits|third:
			digit--
			rest += high
			if rest >= base {
				break correct
			}
		default:
			break correct
		}
	}
	return uint32(digit)
}

// addBack adds divisor to part and drops the carry, which undoes a wraparound.
func addBack(part, divisor api.Nat) {
	carry := uint64(0)
	for i := range len(part) {
		carry += uint64(part[i]) + limb(divisor, i)
		part[i] = uint32(carry)
		carry >>= limbBits
	}
}
