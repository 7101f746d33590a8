package sample

import (
	"math"
	"math/big"
	"math/rand/v2"
	"slices"
	"testing"

	"priceoffice/api"
	"priceoffice/natural"
)

// exactShares returns total * size / sum of sizes for each unit.
func exactShares(total int, sizes []api.Ratio) []*big.Rat {
	sum := sumOf(sizes)
	var shares []*big.Rat
	for _, size := range sizes {
		share := new(big.Rat).Mul(big.NewRat(int64(total), 1), value(size))
		shares = append(shares, share.Quo(share, sum))
	}
	return shares
}

// wantAllocation gives one more to the first unit with the greatest difference, as often as there is something left.
func wantAllocation(total int, sizes []api.Ratio) []int {
	var counts []int
	var differences []*big.Rat
	for _, share := range exactShares(total, sizes) {
		whole := new(big.Int).Quo(share.Num(), share.Denom())
		counts = append(counts, int(whole.Int64()))
		differences = append(differences, share.Sub(share, new(big.Rat).SetInt(whole)))
		total -= int(whole.Int64())
	}
	for range total {
		first := 0
		for i, difference := range differences {
			if difference.Cmp(differences[first]) > 0 {
				first = i
			}
		}
		counts[first]++
		differences[first] = big.NewRat(-1, 1)
	}
	return counts
}

func TestAllocate(t *testing.T) {
	for i, x := range []struct {
		total int
		sizes []api.Ratio
		want  []int
	}{
		{10, fractions(1, 1, 1, 1, 1, 1), []int{4, 3, 3}},
		{11, fractions(1, 1, 1, 1, 1, 1), []int{4, 4, 3}},
		{12, fractions(1, 1, 1, 1, 1, 1), []int{4, 4, 4}},
		{7, fractions(1, 2, 0, 1, 3, 2), []int{2, 0, 5}},
		{0, fractions(1, 2, 0, 1, 3, 2), []int{0, 0, 0}},
		{1, fractions(0, 1, 1, 3, 1, 3, 0, 1), []int{0, 1, 0, 0}},
		{5, fractions(7, 3), []int{5}},
		{100, fractions(1, 3, 1, 6, 1, 2), []int{33, 17, 50}},
		{3, fractions(1, 1, 1, 1, 1, 1, 1, 1), []int{1, 1, 1, 0}},
		// The differences are 2/5, 1/5, 2/5: the first one and the last one lack what is left.
		{4, fractions(3, 1, 4, 1, 3, 1), []int{1, 2, 1}},
		{1, fractions(1, 1000000, 1, 1), []int{0, 1}},
		{api.MaxTotal, fractions(1, 3, 2, 3), []int{349525, 699051}},
	} {
		for _, sizes := range [][]api.Ratio{x.sizes, looseList(x.sizes)} {
			if got, e := Allocate(x.total, sizes); e != api.OK || !slices.Equal(got, x.want) {
				t.Error(i, got, e)
			}
		}
		if got := wantAllocation(x.total, x.sizes); !slices.Equal(got, x.want) {
			t.Error("the description is wrong", i, got)
		}
	}
}

// checkAllocation compares with the description, and has what the document concludes.
func checkAllocation(t *testing.T, total int, sizes []api.Ratio) {
	t.Helper()
	got, e := Allocate(total, sizes)
	if e != api.OK || !slices.Equal(got, wantAllocation(total, sizes)) {
		t.Error(total, sizes, got, e)
		return
	}
	one, sum := big.NewRat(1, 1), 0
	for i, share := range exactShares(total, sizes) {
		sum += got[i]
		if share.Sub(share, big.NewRat(int64(got[i]), 1)).Abs(share).Cmp(one) >= 0 {
			t.Error(total, sizes, got, "differs by 1 or more at", i)
		}
	}
	if sum != total {
		t.Error(total, sizes, got, "does not add up")
	}
}

func TestAllocateBySmallSizes(t *testing.T) {
	for a := range int64(5) {
		for b := range int64(5) {
			for c := range int64(5) {
				for d := range int64(5) {
					if a+b+c+d == 0 {
						continue
					}
					for total := range 12 {
						checkAllocation(t, total, fractions(a, 1, b, 1, c, 1, d, 1))
					}
					checkAllocation(t, 100, fractions(a, 2, b, 3, c, 3, d, 12))
				}
			}
		}
	}
}

func TestAllocateByScatteredSizes(t *testing.T) {
	random := rand.New(rand.NewPCG(2, 29))
	for range 400 {
		most := []int64{2, 10, 1000, math.MaxInt64}[random.IntN(4)]
		sizes := fractions(1+random.Int64N(most), 1+random.Int64N(most))
		for range random.IntN(14) {
			sizes = append(sizes, fraction(random.Int64N(most), 1+random.Int64N(most)))
		}
		random.Shuffle(len(sizes), func(i, k int) { sizes[i], sizes[k] = sizes[k], sizes[i] })
		for _, total := range []int{random.IntN(20), random.IntN(api.MaxTotal + 1)} {
			checkAllocation(t, total, sizes)
			checkAllocation(t, total, looseList(sizes))
		}
	}
}

func TestAllocateAtTheLimits(t *testing.T) {
	random := rand.New(rand.NewPCG(3, 29))
	var many []api.Ratio
	for range api.MaxUnits {
		many = append(many, fraction(random.Int64N(1<<31), 1+random.Int64N(1<<31)))
	}
	ones, nothing := slices.Repeat(fractions(1, 1), api.MaxUnits), slices.Repeat(fractions(0, 1), api.MaxUnits)
	huge, _ := natural.Power(api.Nat{7}, 500)
	long := []api.Ratio{{Num: huge}, {Num: api.Nat{1}, Den: huge}, {Num: huge, Den: api.Nat{3}}, {Num: huge}}
	nothing[150] = fraction(1, 7)
	for _, sizes := range [][]api.Ratio{many, ones, nothing, long, {{}, {Neg: true}, {Num: api.Nat{5}, Den: api.Nat{0}}}} {
		for _, total := range []int{0, 1, 2, 99, 199, 200, 201, api.MaxTotal - 1, api.MaxTotal} {
			checkAllocation(t, total, sizes)
		}
	}
}

func TestAllocateRefuses(t *testing.T) {
	late := append(slices.Repeat(fractions(1, 1), api.MaxUnits-1), fraction(-1, 1000000))
	for i, x := range []struct {
		total int
		sizes []api.Ratio
		e     api.Errno
	}{
		{5, nil, api.ErrSampleSizes}, {5, []api.Ratio{}, api.ErrSampleSizes}, {5, slices.Repeat(fractions(1, 1), api.MaxUnits+1), api.ErrSampleSizes},
		{5, make([]api.Ratio, api.MaxUnits+1), api.ErrSampleSizes}, {5, fractions(0, 1), api.ErrSampleSizes}, {0, make([]api.Ratio, api.MaxUnits), api.ErrSampleSizes},
		{5, []api.Ratio{{Neg: true}, {Num: api.Nat{0}, Den: api.Nat{9}}}, api.ErrSampleSizes}, {5, fractions(-1, 2), api.ErrSampleSizes},
		{5, fractions(3, 1, -1, 1), api.ErrSampleSizes}, {5, fractions(-1, 1, 3, 1), api.ErrSampleSizes}, {5, fractions(1, 1, -1, 1), api.ErrSampleSizes}, {5, late, api.ErrSampleSizes},
		// The sizes come first.
		{-1, nil, api.ErrSampleSizes}, {-1, fractions(0, 1), api.ErrSampleSizes}, {api.MaxTotal + 1, fractions(-1, 1), api.ErrSampleSizes}, {math.MaxInt, late, api.ErrSampleSizes},
		{-1, fractions(1, 1), api.ErrSampleTotal}, {api.MaxTotal + 1, fractions(1, 1), api.ErrSampleTotal}, {math.MinInt, fractions(1, 2), api.ErrSampleTotal}, {math.MaxInt, fractions(1, 2), api.ErrSampleTotal},
	} {
		if got, e := Allocate(x.total, x.sizes); e != x.e || len(got) > 0 {
			t.Error(i, got, e)
		}
	}
}
