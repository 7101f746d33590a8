package quantity

import (
	"math"
	"math/big"
	"math/rand/v2"
	"testing"

	"priceoffice/api"
)

const most = api.MaxQuantity

func of(dimension, count int, amount int64) api.Quantity {
	return api.Quantity{Dimension: dimension, Count: count, Amount: amount}
}

// edges returns quantities of all dimensions and others, with counts and amounts at their limits and beyond them.
func edges() []api.Quantity {
	var list []api.Quantity
	for _, dimension := range []int{math.MinInt, -4, -1, 0, api.Mass, api.Volume, api.Length, api.Pieces, 5, 6, 1 << 8, 1<<32 + 1, math.MaxInt} {
		for _, count := range []int{math.MinInt, -100, -1, 0, 1, 2, 3, 7, 64, 99, 100, 101, 1 << 8, 1<<32 + 1, math.MaxInt} {
			amounts := []int64{math.MinInt64, math.MinInt64 + 1, -most, -1, 0, 1, 2, 10, 999, 1000, most - 1, most, most + 1, 1 << 57, 1 << 62, math.MaxInt64/100 + 1, math.MaxInt64}
			for _, k := range []int64{3, 7, 64, 99, 100} {
				amounts = append(amounts, most/k-1, most/k, most/k+1)
			}
			for _, amount := range amounts {
				list = append(list, of(dimension, count, amount))
			}
		}
	}
	return list
}

// samples returns valid quantities of a dimension: small amounts, those near the units and their multiples, and others.
func samples(dimension int) []api.Quantity {
	random := rand.New(rand.NewPCG(23, uint64(dimension)))
	var amounts []int64
	for amount := range int64(2100) {
		amounts = append(amounts, amount+1)
	}
	for _, near := range []int64{1e4, 1e5, 1e6, 1e7, 123e6, 1e9, 1e12, most/100 + 1, most - 3} {
		for change := range int64(7) {
			amounts = append(amounts, near+change-3)
		}
	}
	for range 500 {
		size := int64(1) << random.IntN(41)
		amounts = append(amounts, 1+random.Int64N(size), 10*(1+random.Int64N(size/10+1)), 1000*(1+random.Int64N(size/1000+1)))
	}
	var list []api.Quantity
	for _, amount := range amounts {
		for _, count := range []int{1, 2, 9, 10, 100, 1 + random.IntN(100)} {
			if int64(count)*amount <= most {
				list = append(list, of(dimension, count, amount))
			}
		}
	}
	return list
}

// verdict describes the errors of quantities independently of the package.
func verdict(q api.Quantity) api.Errno {
	total := new(big.Int).Mul(big.NewInt(int64(q.Count)), big.NewInt(q.Amount))
	switch q.Dimension {
	case api.Mass, api.Volume, api.Length, api.Pieces:
		if q.Count <= 0 || q.Count >= 101 {
			return api.ErrQuantityCount
		}
		if q.Amount <= 0 || total.Cmp(big.NewInt(1<<40)) > 0 {
			return api.ErrQuantityAmount
		}
		return api.OK
	}
	return api.ErrQuantityDimension
}

func TestValidateAndTotal(t *testing.T) {
	for _, q := range edges() {
		want := verdict(q)
		if e := Validate(q); e != want {
			t.Error(q, e, want)
		}
		total := int64(0)
		if want == api.OK {
			total = int64(q.Count) * q.Amount
		}
		if got := Total(q); got != total {
			t.Error(q, got, total)
		}
	}
}

func TestValidSamples(t *testing.T) {
	for dimension := api.Mass; dimension <= api.Pieces; dimension++ {
		for _, q := range samples(dimension) {
			if e, total := Validate(q), Total(q); e != api.OK || total != int64(q.Count)*q.Amount {
				t.Error(q, e, total)
			}
		}
	}
}

func TestErrorsInTheirOrder(t *testing.T) {
	for _, x := range []struct {
		q    api.Quantity
		want api.Errno
	}{
		{api.Quantity{}, api.ErrQuantityDimension}, {of(0, 1, 1), api.ErrQuantityDimension}, {of(5, 0, 0), api.ErrQuantityDimension}, {of(-1, 101, most+1), api.ErrQuantityDimension},
		{of(api.Mass, 0, 1), api.ErrQuantityCount}, {of(api.Mass, 0, 0), api.ErrQuantityCount}, {of(api.Volume, 101, most), api.ErrQuantityCount}, {of(api.Pieces, -1, -1), api.ErrQuantityCount},
		{of(api.Mass, 1, 0), api.ErrQuantityAmount}, {of(api.Mass, 1, -1), api.ErrQuantityAmount}, {of(api.Length, 1, most+1), api.ErrQuantityAmount}, {of(api.Length, 2, most/2+1), api.ErrQuantityAmount}, {of(api.Length, 100, most/100+1), api.ErrQuantityAmount},
		{of(api.Mass, 1, most), api.OK}, {of(api.Length, 2, most/2), api.OK}, {of(api.Length, 100, most/100), api.OK}, {of(api.Pieces, 100, 1), api.OK}, {of(api.Volume, 1, 1), api.OK},
		// Products that wrap around to valid numbers.
		{of(api.Mass, 4, 1<<62+1), api.ErrQuantityAmount}, {of(api.Mass, 64, 1<<58+5), api.ErrQuantityAmount}, {of(api.Mass, 2, math.MinInt64+4), api.ErrQuantityAmount},
	} {
		if e := Validate(x.q); e != x.want {
			t.Error(x.q, e, x.want)
		}
		if total := Total(x.q); (total == 0) == (x.want == api.OK) {
			t.Error(x.q, total)
		}
	}
}
