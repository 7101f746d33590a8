package tariff

import (
	"math"
	"slices"
	"testing"

	"priceoffice/api"
)

// extremes are numbers around the limits of prices and of units, which are the same.
var extremes = []int64{math.MinInt64, math.MinInt64 + 1, -1 << 41, -1 << 40, -2, -1, 0, 1, 2, 1<<40 - 1, 1 << 40, 1<<40 + 1, 1 << 41, math.MaxInt64 - 1, math.MaxInt64}

func inRange(n int64) bool {
	return n >= 0 && n <= 1<<40
}

// checkError compares the errors of all functions with their description, and their other results with nothing.
func checkError(t *testing.T, x api.Tariff, want api.Errno) {
	t.Helper()
	if described := verdict(x); described != want {
		t.Fatalf("the description of %v says %v, not %v", x, described, want)
	}
	if e := Validate(x); e != want {
		t.Errorf("Validate of %v: %v, want %v", x, e, want)
	}
	checkAmounts(t, x, want)
	checkUses(t, x, want)
	if Equivalent(x, x) != (want == api.OK) {
		t.Errorf("Equivalent of %v and itself", x)
	}
	if want != api.OK && (Equivalent(x, example()) || Equivalent(example(), x) || Equivalent(x, api.Tariff{})) {
		t.Errorf("Equivalent of %v, which is not valid, and another one", x)
	}
}

// checkAmounts checks the errors of functions that take an amount.
func checkAmounts(t *testing.T, x api.Tariff, invalid api.Errno) {
	t.Helper()
	for _, amount := range extremes {
		want := invalid
		if invalid == api.OK && !inRange(amount) {
			want = api.ErrTariffAmount
		}
		bill, e := Bill(x, amount)
		if e != want || e != api.OK && !same(bill, api.Ratio{}) {
			t.Errorf("Bill of %v for %d: %v, %v, want %v", x, amount, bill, e, want)
		}
		price, e := Marginal(x, amount)
		if e != want || e != api.OK && price != 0 {
			t.Errorf("Marginal of %v for %d: %v, %v, want %v", x, amount, price, e, want)
		}
	}
}

// checkUses checks the errors of functions that take uses.
func checkUses(t *testing.T, x api.Tariff, invalid api.Errno) {
	t.Helper()
	for _, list := range [][]api.Use{uses(0, 1, 150, 3), nil, uses(-1, 1)} {
		want := invalid
		if invalid == api.OK && len(list) != 2 {
			want = api.ErrTariffUses
		}
		mean, e := Average(x, list)
		if e != want || e != api.OK && !same(mean, api.Ratio{}) {
			t.Errorf("Average of %v over %v: %v, %v, want %v", x, list, mean, e, want)
		}
		checkIndexError(t, example(), x, list, want)
		if invalid != api.OK {
			checkIndexError(t, x, example(), list, want)
			checkIndexError(t, x, x, list, want)
		}
	}
}

func checkIndexError(t *testing.T, base, current api.Tariff, list []api.Use, want api.Errno) {
	t.Helper()
	if index, e := Index(base, current, list); e != want || e != api.OK && !same(index, api.Ratio{}) {
		t.Errorf("Index of %v and %v over %v: %v, %v, want %v", base, current, list, index, e, want)
	}
}

func blocksError(valid bool) api.Errno {
	if valid {
		return api.OK
	}
	return api.ErrTariffBlocks
}

func TestStandings(t *testing.T) {
	for _, n := range extremes {
		want := api.OK
		if !inRange(n) {
			want = api.ErrTariffStanding
		}
		checkError(t, of(n, 0, 0), want)
		checkError(t, of(n, 100, 20, 0, 30), want)
		// The standing charge is looked at first.
		if want == api.OK {
			want = api.ErrTariffBlocks
		}
		for _, bad := range []api.Tariff{of(n), of(n, 5, 1), of(n, 0, -1), of(n, 9, 1, 8, 1, 0, 1)} {
			checkError(t, bad, want)
		}
	}
}

func TestCountsOfBlocks(t *testing.T) {
	for n := range 20 {
		x := api.Tariff{Standing: 1}
		for i := range n {
			x.Blocks = append(x.Blocks, api.Block{UpTo: int64(i + 1), Price: int64(i % 3)})
		}
		// Without a block of no limit at its end, no list is one of blocks.
		checkError(t, x, api.ErrTariffBlocks)
		x.Blocks = append(x.Blocks, api.Block{Price: 3})
		checkError(t, x, blocksError(n < 8))
		x.Blocks[n].Price = -1
		checkError(t, x, api.ErrTariffBlocks)
	}
	checkError(t, api.Tariff{Blocks: []api.Block{}}, api.ErrTariffBlocks)
	checkError(t, api.Tariff{Blocks: make([]api.Block, 1)}, api.OK)
	checkError(t, api.Tariff{Blocks: make([]api.Block, 1<<20)}, api.ErrTariffBlocks)
}

// TestPricesOfBlocks has each price at all places.
func TestPricesOfBlocks(t *testing.T) {
	for _, price := range extremes {
		for n := range 8 {
			x := of(1, 1, 1, 2, 2, 3, 3, 4, 4, 5, 5, 6, 6, 7, 7, 0, 8)
			x.Blocks = x.Blocks[7-n:]
			for i := range x.Blocks {
				kept := x.Blocks[i].Price
				x.Blocks[i].Price = price
				checkError(t, x, blocksError(inRange(price)))
				x.Blocks[i].Price = kept
			}
		}
	}
}

func TestLimitsOfBlocks(t *testing.T) {
	for _, upTo := range extremes {
		checkError(t, of(1, upTo, 1), blocksError(upTo == 0))
		checkError(t, of(1, upTo, 1, 0, 1), blocksError(upTo > 0 && inRange(upTo)))
		checkError(t, of(1, 50, 1, upTo, 1), blocksError(upTo == 0))
		checkError(t, of(1, 50, 1, upTo, 1, 0, 1), blocksError(upTo > 50 && inRange(upTo)))
		checkError(t, of(1, upTo, 1, 50, 1, 0, 1), blocksError(upTo > 0 && upTo < 50))
		checkError(t, of(1, 3, 1, upTo, 1, 50, 1, 0, 1), blocksError(upTo > 3 && upTo < 50))
		checkError(t, of(1, upTo, 1, upTo, 1, 0, 1), api.ErrTariffBlocks)
	}
}

// TestOrderOfBlocks has the limits of blocks in all orders, and repeated.
func TestOrderOfBlocks(t *testing.T) {
	for number := range 5 * 5 * 5 * 5 {
		ends := []int64{int64(number % 5), int64(number / 5 % 5), int64(number / 25 % 5), int64(number / 125)}
		ascending := 0 < ends[0] && ends[0] < ends[1] && ends[1] < ends[2] && ends[3] == 0
		checkError(t, of(1, ends[0], 9, ends[1], 9, ends[2], 9, ends[3], 9), blocksError(ascending))
	}
	ends := []int64{1, 2, 3, 4, 5, 6, 1 << 40, 0}
	for i := range ends {
		for k := range i {
			swapped := slices.Clone(ends)
			swapped[i], swapped[k] = swapped[k], swapped[i]
			x := api.Tariff{}
			for _, end := range swapped {
				x.Blocks = append(x.Blocks, api.Block{UpTo: end, Price: 5})
			}
			checkError(t, x, api.ErrTariffBlocks)
		}
	}
	checkError(t, of(0, 1, 5, 2, 5, 3, 5, 4, 5, 5, 5, 6, 5, 1<<40, 5, 0, 5), api.OK)
}
