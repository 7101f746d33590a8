package tariff

import (
	"math/big"
	"math/rand/v2"
	"slices"

	"priceoffice/api"
	"priceoffice/rational"
)

// of makes a tariff of a standing charge and pairs of UpTo and Price.
func of(standing int64, pairs ...int64) api.Tariff {
	t := api.Tariff{Standing: standing}
	for pair := range slices.Chunk(pairs, 2) {
		t.Blocks = append(t.Blocks, api.Block{UpTo: pair[0], Price: pair[1]})
	}
	return t
}

// uses makes a list of pairs of Amount and Count.
func uses(pairs ...int64) []api.Use {
	var list []api.Use
	for pair := range slices.Chunk(pairs, 2) {
		list = append(list, api.Use{Amount: pair[0], Count: pair[1]})
	}
	return list
}

// example is the tariff of the chapter's examples.
func example() api.Tariff {
	return of(500, 100, 20, 0, 30)
}

// verdict describes the errors of tariffs independently of the package.
func verdict(t api.Tariff) api.Errno {
	if t.Standing != min(max(t.Standing, 0), 1<<40) {
		return api.ErrTariffStanding
	}
	n := len(t.Blocks)
	if n != min(max(n, 1), 8) {
		return api.ErrTariffBlocks
	}
	ends := []int64{0}
	for _, b := range t.Blocks {
		ends = append(ends, b.UpTo)
		if b.Price != min(max(b.Price, 0), 1<<40) {
			return api.ErrTariffBlocks
		}
	}
	// The last limit stands beside the one that the last block would have to be above.
	ends[n] += 1<<40 + 1
	sorted := slices.Clone(ends)
	slices.Sort(sorted)
	if ends[n] != 1<<40+1 || !slices.Equal(ends, slices.Compact(sorted)) {
		return api.ErrTariffBlocks
	}
	return api.OK
}

// wantPrice returns the price of a unit of a valid tariff.
func wantPrice(t api.Tariff, unit int64) int64 {
	i := slices.IndexFunc(t.Blocks, func(b api.Block) bool { return b.UpTo >= unit })
	if i < 0 {
		i = len(t.Blocks) - 1
	}
	return t.Blocks[i].Price
}

// wantBill adds up what each block's price adds to that of the block before it.
func wantBill(t api.Tariff, amount int64) *big.Rat {
	sum := big.NewInt(t.Standing)
	behind, price := int64(0), int64(0)
	for _, b := range t.Blocks {
		more := big.NewInt(b.Price - price)
		sum.Add(sum, more.Mul(more, big.NewInt(max(amount-behind, 0))))
		behind, price = b.UpTo, b.Price
	}
	return new(big.Rat).SetInt(sum)
}

// wantAverage adds up the parts that the uses have in the mean.
func wantAverage(t api.Tariff, list []api.Use) *big.Rat {
	count := new(big.Int)
	for _, u := range list {
		count.Add(count, big.NewInt(u.Count))
	}
	mean := new(big.Rat)
	for _, u := range list {
		part := new(big.Rat).SetFrac(big.NewInt(u.Count), count)
		mean.Add(mean, part.Mul(part, wantBill(t, u.Amount)))
	}
	return mean
}

// wantEquivalent compares two valid tariffs unit by unit, as far as a block ends, and one unit behind it.
func wantEquivalent(a, b api.Tariff) bool {
	end := int64(0)
	for _, block := range slices.Concat(a.Blocks, b.Blocks) {
		end = max(end, block.UpTo)
	}
	for unit := range end + 1 {
		if wantPrice(a, unit+1) != wantPrice(b, unit+1) {
			return false
		}
	}
	return a.Standing == b.Standing
}

// value returns x as a number of math/big, which the tests compare the package with.
func value(x api.Ratio) *big.Rat {
	integer := func(n api.Nat) *big.Int {
		z := new(big.Int)
		for _, limb := range slices.Backward(n) {
			z.Or(z.Lsh(z, 32), big.NewInt(int64(limb)))
		}
		return z
	}
	num, den := integer(x.Num), integer(x.Den)
	if den.Sign() == 0 {
		den.SetInt64(1)
	}
	if x.Neg {
		num.Neg(num)
	}
	return new(big.Rat).SetFrac(num, den)
}

// denotes reports whether x is the canonical form of a number.
func denotes(x api.Ratio, want *big.Rat) bool {
	return same(x, rational.Normalize(x)) && value(x).Cmp(want) == 0
}

// same reports whether two numbers have the same form.
func same(x, y api.Ratio) bool {
	return x.Neg == y.Neg && slices.Equal(x.Num, y.Num) && slices.Equal(x.Den, y.Den)
}

// randomTariff returns a valid tariff; its blocks end in the first so many units, and few prices occur in it.
func randomTariff(random *rand.Rand, end int64) api.Tariff {
	ends := make([]int64, random.IntN(8))
	for i := range ends {
		ends[i] = 1 + random.Int64N(end)
	}
	slices.Sort(ends)
	t := api.Tariff{Standing: random.Int64N(3) * random.Int64N(1<<39)}
	for _, upTo := range append(slices.Compact(ends), 0) {
		t.Blocks = append(t.Blocks, api.Block{UpTo: upTo, Price: somePrices()[random.IntN(6)]})
	}
	return t
}

func somePrices() []int64 {
	return []int64{0, 1, 2, 7, 1<<40 - 1, 1 << 40}
}

// randomUses returns a list of valid uses of the first so many units.
func randomUses(random *rand.Rand, end int64) []api.Use {
	list := make([]api.Use, 1+random.IntN(20))
	for i := range list {
		list[i] = api.Use{Amount: random.Int64N(end + 1), Count: 1 + random.Int64N(1+random.Int64N(1<<40))}
	}
	return list
}
