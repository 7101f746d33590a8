package tariff

import (
	"math/big"
	"math/rand/v2"
	"slices"
	"testing"

	"priceoffice/api"
	"priceoffice/rational"
)

// checkMean compares Average and Index with their descriptions for valid tariffs and uses.
func checkMean(t *testing.T, base, current api.Tariff, list []api.Use) {
	t.Helper()
	before, after := wantAverage(base, list), wantAverage(current, list)
	if mean, e := Average(base, list); e != api.OK || !denotes(mean, before) {
		t.Errorf("Average of %v over %v: %v, %v, want %v", base, list, mean, e, before)
	}
	if before.Sign() == 0 {
		checkIndexError(t, base, current, list, api.ErrTariffZero)
		return
	}
	want := new(big.Rat).Quo(after, before)
	if index, e := Index(base, current, list); e != api.OK || !denotes(index, want) {
		t.Errorf("Index of %v and %v over %v: %v, %v, want %v", base, current, list, index, e, want)
	}
}

func TestMeansOfTheExample(t *testing.T) {
	list := uses(0, 1, 150, 3)
	if mean, e := Average(example(), list); e != api.OK || !denotes(mean, big.NewRat(3125, 1)) {
		t.Error(mean, e)
	}
	for _, x := range []struct {
		current api.Tariff
		want    *big.Rat
	}{
		{example(), big.NewRat(1, 1)}, {of(1000, 100, 40, 0, 60), big.NewRat(2, 1)}, {of(625, 0, 0), big.NewRat(1, 5)},
		{of(0, 0, 0), new(big.Rat)}, {of(500, 149, 20, 0, 21), big.NewRat(500*4+3*3001, 12500)},
	} {
		if index, e := Index(example(), x.current, list); e != api.OK || !denotes(index, x.want) {
			t.Error(x, index, e)
		}
		checkMean(t, example(), x.current, list)
	}
}

// TestMeansAreOfBills has amounts whose mean would have another bill.
func TestMeansAreOfBills(t *testing.T) {
	for _, x := range []struct {
		list []api.Use
		want *big.Rat
	}{
		{uses(0, 1), big.NewRat(500, 1)}, {uses(150, 1), big.NewRat(4000, 1)}, {uses(150, 1<<40), big.NewRat(4000, 1)}, {uses(0, 1, 200, 1), big.NewRat(3000, 1)},
		{uses(1, 2, 2, 1), big.NewRat(1580, 3)}, {uses(2, 1, 1, 2), big.NewRat(1580, 3)}, {uses(1, 1, 2, 1, 1, 1), big.NewRat(1580, 3)},
	} {
		if mean, e := Average(example(), x.list); e != api.OK || !denotes(mean, x.want) {
			t.Error(x, mean, e)
		}
		checkMean(t, example(), of(3, 1, 5, 0, 6), x.list)
	}
}

func TestCountsOfUses(t *testing.T) {
	for n := range 40 {
		for _, u := range []api.Use{{Amount: 7, Count: 1}, {Amount: 1 << 40, Count: 1 << 40}, {Amount: 1<<40 - 1, Count: 1<<40 - 1}} {
			list := slices.Repeat([]api.Use{u}, n)
			if n > 0 && n < 21 {
				checkMean(t, of(1<<40, 1<<39, 1<<40, 0, 1<<40-1), example(), list)
				continue
			}
			checkUsesError(t, list, api.ErrTariffUses)
		}
	}
	checkUsesError(t, []api.Use{}, api.ErrTariffUses)
	checkUsesError(t, slices.Repeat(uses(1, 1), 1<<20), api.ErrTariffUses)
}

// checkUsesError checks the error of a list of uses, and that errors of tariffs go before it, but that of an average 0
// does not.
func checkUsesError(t *testing.T, list []api.Use, want api.Errno) {
	t.Helper()
	free, bad, worse := of(0, 0, 0), of(1), of(-1)
	for _, x := range []struct {
		base api.Tariff
		want api.Errno
	}{{example(), want}, {free, want}, {bad, api.ErrTariffBlocks}, {worse, api.ErrTariffStanding}} {
		mean, e := Average(x.base, list)
		if e != x.want || e != api.OK && !same(mean, api.Ratio{}) {
			t.Errorf("Average of %v over %v: %v, %v, want %v", x.base, list, mean, e, x.want)
		}
		for _, current := range []api.Tariff{example(), free, bad, worse} {
			first := verdict(x.base)
			if first == api.OK {
				first = verdict(current)
			}
			if first == api.OK {
				first = want
			}
			if first == api.OK && x.base.Standing == 0 {
				first = api.ErrTariffZero
			}
			checkIndexError(t, x.base, current, list, first)
		}
	}
}

// TestNumbersOfUses has each number at all places.
func TestNumbersOfUses(t *testing.T) {
	good := api.Use{Amount: 150, Count: 3}
	for _, n := range extremes {
		for _, u := range []api.Use{{Amount: n, Count: 1}, {Amount: 1, Count: n}, {Amount: n, Count: n}} {
			want := api.OK
			if !inRange(u.Amount) || !inRange(u.Count) || u.Count == 0 {
				want = api.ErrTariffUses
			}
			for size := range 4 {
				for i := range size + 1 {
					list := slices.Insert(slices.Repeat([]api.Use{good}, size), i, u)
					checkUsesError(t, list, want)
				}
			}
			last := append(slices.Repeat([]api.Use{good}, 19), u)
			checkUsesError(t, last, want)
		}
	}
	checkUsesError(t, []api.Use{good, {}}, api.ErrTariffUses)
}

// TestIndexOfZero has averages that are 0 though prices are not, since no units of those prices are used.
func TestIndexOfZero(t *testing.T) {
	later := of(0, 10, 0, 0, 5)
	checkIndexError(t, of(0, 0, 0), example(), uses(10, 1), api.ErrTariffZero)
	checkIndexError(t, later, example(), uses(10, 1, 0, 5, 3, 2), api.ErrTariffZero)
	checkIndexError(t, later, later, uses(10, 1), api.ErrTariffZero)
	checkIndexError(t, of(0, 0, 9), example(), uses(0, 4), api.ErrTariffZero)
	checkIndexError(t, later, of(1), uses(10, 1), api.ErrTariffBlocks)
	checkMean(t, later, example(), uses(10, 1, 11, 1))
	checkMean(t, example(), later, uses(10, 1))
	checkMean(t, of(1, 0, 0), of(0, 0, 0), uses(10, 1))
}

func TestRandomMeans(t *testing.T) {
	random := rand.New(rand.NewPCG(3, 41))
	for range 1000 {
		for _, end := range []int64{1, 12, 1 << 40} {
			checkMean(t, randomTariff(random, end), randomTariff(random, end), randomUses(random, end))
		}
	}
}

// TestIndexIsTheFactor multiplies the standing charge and all prices by a number.
func TestIndexIsTheFactor(t *testing.T) {
	random := rand.New(rand.NewPCG(4, 41))
	indices := 0
	for range 500 {
		base := randomTariff(random, 12)
		base.Standing %= 1 << 20
		for i := range base.Blocks {
			base.Blocks[i].Price %= 1 << 20
		}
		factor := random.Int64N(1 << 20)
		current := api.Tariff{Standing: base.Standing * factor, Blocks: slices.Clone(base.Blocks)}
		for i := range current.Blocks {
			current.Blocks[i].Price *= factor
		}
		index, e := Index(base, current, randomUses(random, 15))
		if e == api.OK {
			indices++
		}
		if e == api.OK && !same(index, rational.FromInt(factor)) || e != api.OK && e != api.ErrTariffZero {
			t.Error(base, factor, index, e)
		}
	}
	if indices < 400 {
		t.Error("the tariffs are too cheap", indices)
	}
}
