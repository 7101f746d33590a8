// Package natural is layer 1: see shared/doc/01-natural.md.
package natural

import (
	"math/bits"

	"priceoffice/api"
)

const limbBits = 32

// significant returns n without its high zero limbs. The result shares the memory of n.
func significant(n api.Nat) api.Nat {
	size := len(n)
	for size > 0 && n[size-1] == 0 {
		size--
	}
	return n[:size]
}

// limb returns the limb of n at place i, which is 0 beyond the end of n.
func limb(n api.Nat, i int) uint64 {
	if i < len(n) {
		return uint64(n[i])
	}
	return 0
}

// Trim returns n without high zero limbs.
func Trim(n api.Nat) api.Nat {
	return append(api.Nat(nil), significant(n)...)
}

// FromUint returns v.
func FromUint(v uint64) api.Nat {
	return significant(api.Nat{uint32(v), uint32(v >> limbBits)})
}

// Uint returns n and whether it fits into 64 bits.
func Uint(n api.Nat) (uint64, bool) {
	if len(significant(n)) > 2 {
		return 0, false
	}
	return limb(n, 1)<<limbBits | limb(n, 0), true
}

// Compare returns -1, 0 or 1 if a is less than, equal to or greater than b.
func Compare(a, b api.Nat) int {
	size := max(len(a), len(b))
	for i := range size {
		x, y := limb(a, size-1-i), limb(b, size-1-i)
		switch {
		case x < y:
			return -1
		case x > y:
			return 1
		}
	}
	return 0
}

// Bits returns the number of bits of n; 0 has none.
func Bits(n api.Nat) int {
	x := significant(n)
	if len(x) == 0 {
		return 0
	}
	return (len(x)-1)*limbBits + bits.Len32(x[len(x)-1])
}

// Add returns a + b.
func Add(a, b api.Nat) api.Nat {
	sum := make(api.Nat, max(len(a), len(b))+1)
	carry := uint64(0)
	for i := range len(sum) {
		carry += limb(a, i) + limb(b, i)
		sum[i] = uint32(carry)
		carry >>= limbBits
	}
	return significant(sum)
}

// Sub returns a - b, and false if b is greater than a.
func Sub(a, b api.Nat) (api.Nat, bool) {
	if Compare(a, b) < 0 {
		return nil, false
	}
	difference := Trim(a)
	subtractMultiple(difference, significant(b), 1)
	return significant(difference), true
}

// Mul returns a times b.
func Mul(a, b api.Nat) api.Nat {
	x, y := significant(a), significant(b)
	product := make(api.Nat, len(x)+len(y))
	for i := range len(x) {
		addMultiple(product[i:], y, x[i])
	}
	return significant(product)
}

// addMultiple adds n times factor to target, which has more limbs than n; the one at the place len(n) is still 0.
func addMultiple(target, n api.Nat, factor uint32) {
	carry := uint64(0)
	for i := range len(n) {
		carry += uint64(n[i])*uint64(factor) + uint64(target[i])
		target[i] = uint32(carry)
		carry >>= limbBits
	}
	target[len(n)] = uint32(carry)
}

// subtractMultiple subtracts n times factor from target, which has at least as many limbs as n, and reports whether
// target was too small and has wrapped around.
func subtractMultiple(target, n api.Nat, factor uint32) bool {
	carry, borrow := uint64(0), uint64(0)
	for i := range len(target) {
		carry += limb(n, i) * uint64(factor)
		rest := uint64(target[i]) - carry&(1<<limbBits-1) - borrow
		target[i] = uint32(rest)
		borrow = rest >> 63
		carry >>= limbBits
	}
	return borrow != 0
}

// shiftLeft returns n * 2^k.
func shiftLeft(n api.Nat, k int) api.Nat {
	whole, part := k/limbBits, k%limbBits
	shifted := make(api.Nat, len(n)+whole+1)
	for i := range len(n) {
		moved := uint64(n[i]) << part
		shifted[whole+i] |= uint32(moved)
		shifted[whole+i+1] = uint32(moved >> limbBits)
	}
	return significant(shifted)
}

// shiftRight returns the integer part of n / 2^k.
func shiftRight(n api.Nat, k int) api.Nat {
	whole, part := k/limbBits, k%limbBits
	shifted := make(api.Nat, max(len(n)-whole, 0))
	for i := range len(shifted) {
		pair := limb(n, whole+i+1)<<limbBits | uint64(n[whole+i])
		shifted[i] = uint32(pair >> part)
	}
	return significant(shifted)
}
