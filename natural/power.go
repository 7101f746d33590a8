package natural

import (
	"math/bits"

	"priceoffice/api"
)

// Power returns n to the power k.
func Power(n api.Nat, k int) (api.Nat, api.Errno) {
	size := Bits(n)
	switch {
	case k < 0:
		return nil, api.ErrNaturalExponent
	case k == 0:
		return FromUint(1), api.OK
	case size <= 1:
		return Trim(n), api.OK
	case size-1 > (api.MaxBits-1)/k:
		// The power is at least 2^((size-1)*k) and so has more bits than allowed.
		return nil, api.ErrNaturalSize
	}
	result := power(n, k)
	if Bits(result) > api.MaxBits {
		return nil, api.ErrNaturalSize
	}
	return result, api.OK
}

// power returns n to the power k, which is not negative, of any size.
func power(n api.Nat, k int) api.Nat {
	result := FromUint(1)
	length := bits.Len(uint(k))
	for i := range length {
		result = Mul(result, result)
		if k>>(length-1-i)&1 == 1 {
			result = Mul(result, n)
		}
	}
	return result
}

// Root returns the greatest r with r to the power k at most n, and whether equality holds.
func Root(n api.Nat, k int) (api.Nat, bool, api.Errno) {
	if k < 1 || k > api.MaxDegree {
		return nil, false, api.ErrNaturalDegree
	}
	root := floorRoot(n, k)
	return root, Compare(power(root, k), n) == 0, api.OK
}

// floorRoot returns the greatest r with r to the power k at most n.
func floorRoot(n api.Nat, k int) api.Nat {
	size := Bits(n)
	switch {
	case size == 0:
		return nil
	case size <= k:
		return FromUint(1)
	}
	// The root of the high part of n gives so many leading bits of the root that a few steps of Newton's method give
	// the rest: all but half of the bits of the root, or one bit where the degree is too high for that.
	rootSize := (size + k - 1) / k
	low := max(1, (rootSize-1-bits.Len(uint(k)))/2)
	high := floorRoot(shiftRight(n, low*k), k)
	return newton(n, k, shiftLeft(Add(high, FromUint(1)), low))
}

// newton returns the greatest r with r to the power k at most n, by Newton's method from a start above it. The steps
// descend as long as they are above r, and never pass it.
func newton(n api.Nat, k int, start api.Nat) api.Nat {
	root := start
	for {
		quotient, _, _ := Divide(n, power(root, k-1))
		sum := Add(Mul(root, FromUint(uint64(k-1))), quotient)
		divideInPlace(sum, uint32(k))
		next := significant(sum)
		if Compare(next, root) >= 0 {
			return root
		}
		root = next
	}
}
