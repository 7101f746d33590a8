package sample

import (
	"slices"

	"priceoffice/api"
	"priceoffice/natural"
	"priceoffice/rational"
)

// Allocate distributes a total in proportion to sizes, by largest remainders.
func Allocate(total int, sizes []api.Ratio) ([]int, api.Errno) {
	switch {
	case !areShares(sizes):
		return nil, api.ErrSampleSizes
	case total < 0 || total > api.MaxTotal:
		return nil, api.ErrSampleTotal
	}
	shares, sum := proportions(sizes)
	counts, left := make([]int, len(sizes)), total
	remainders := make([]api.Nat, len(sizes))
	for unit, share := range shares {
		exact := natural.Mul(natural.FromUint(uint64(total)), share)
		whole, remainder, _ := natural.Divide(exact, sum)
		count, _ := natural.Uint(whole)
		counts[unit], remainders[unit] = int(count), remainder
		left -= int(count)
	}
	// The remainders are below the sum, and add up to the sum times what is left: enough units have one.
	greatestFirst := ranked(len(sizes), func(a, b int) int { return natural.Compare(remainders[b], remainders[a]) })
	for _, unit := range greatestFirst[:left] {
		counts[unit]++
	}
	return counts, api.OK
}

// areShares reports whether a total can be distributed by these sizes.
func areShares(sizes []api.Ratio) bool {
	if len(sizes) > api.MaxUnits {
		return false
	}
	positive := false
	for _, size := range sizes {
		if rational.Sign(size) < 0 {
			return false
		}
		positive = positive || rational.Sign(size) > 0
	}
	return positive
}

// proportions returns natural numbers in the proportions of the sizes, and their sum.
func proportions(sizes []api.Ratio) ([]api.Nat, api.Nat) {
	multiple := commonMultiple(sizes)
	var shares []api.Nat
	var sum api.Nat
	for _, size := range sizes {
		share := rational.Mul(size, multiple).Num
		shares = append(shares, share)
		sum = natural.Add(sum, share)
	}
	return shares, sum
}

// commonMultiple returns the least common multiple of the denominators.
func commonMultiple(list []api.Ratio) api.Ratio {
	multiple := rational.FromInt(1)
	for _, x := range list {
		if missing := rational.Mul(x, multiple).Den; len(missing) > 0 {
			multiple = rational.Mul(multiple, api.Ratio{Num: missing})
		}
	}
	return multiple
}

// ranked returns the units from 0 to n - 1 in the order of a comparison, equal ones in ascending order.
func ranked(n int, compare func(a, b int) int) []int {
	units := make([]int, n)
	for unit := range n {
		units[unit] = unit
	}
	slices.SortStableFunc(units, compare)
	return units
}
