package tariff

import (
	"math/rand/v2"
	"slices"
	"testing"

	"priceoffice/api"
)

// checkEquivalent checks two tariffs in both orders.
func checkEquivalent(t *testing.T, a, b api.Tariff, want bool) {
	t.Helper()
	if there, back := Equivalent(a, b), Equivalent(b, a); there != want || back != want {
		t.Errorf("Equivalent of %v and %v: %v, %v, want %v", a, b, there, back, want)
	}
}

func TestEquivalentOfTheExample(t *testing.T) {
	for _, x := range []struct {
		other api.Tariff
		want  bool
	}{
		{example(), true}, {of(500, 40, 20, 100, 20, 0, 30), true}, {of(500, 100, 20, 1<<40, 30, 0, 30), true}, {of(500, 40, 20, 100, 20, 101, 30, 0, 30), true},
		{of(500, 1, 20, 2, 20, 3, 20, 4, 20, 5, 20, 6, 20, 100, 20, 0, 30), true}, {of(500, 100, 20, 101, 30, 102, 30, 103, 30, 104, 30, 105, 30, 106, 30, 0, 30), true},
		{of(499, 100, 20, 0, 30), false}, {of(500, 99, 20, 0, 30), false}, {of(500, 101, 20, 0, 30), false}, {of(500, 100, 21, 0, 30), false}, {of(500, 100, 20, 0, 29), false},
		{of(500, 100, 30, 0, 20), false}, {of(500, 0, 20), false}, {of(500, 0, 30), false}, {of(500, 40, 20, 100, 30, 0, 30), false}, {of(500, 40, 19, 100, 20, 0, 30), false},
		{of(500, 100, 20, 200, 30, 0, 20), false}, {of(500, 100, 20, 150, 30, 151, 20, 0, 30), false}, {of(500, 40, 20, 41, 30, 100, 20, 0, 30), false},
	} {
		checkEquivalent(t, example(), x.other, x.want)
	}
}

// TestEquivalentBehindTheLastAmount has tariffs that differ only in units that no bill can have.
func TestEquivalentBehindTheLastAmount(t *testing.T) {
	a, b := of(5, 1<<40, 3, 0, 3), of(5, 1<<40, 3, 0, 4)
	for _, amount := range []int64{0, 1, 1<<40 - 1, 1 << 40} {
		first, _ := Bill(a, amount)
		second, _ := Bill(b, amount)
		if !same(first, second) {
			t.Error(amount, first, second)
		}
	}
	checkEquivalent(t, a, b, false)
	checkEquivalent(t, a, of(5, 0, 3), true)
	checkEquivalent(t, b, of(5, 0, 3), false)
	checkEquivalent(t, b, of(5, 7, 3, 1<<40, 3, 0, 4), true)
	checkEquivalent(t, b, of(5, 1<<40-1, 3, 0, 4), false)
}

// TestEquivalentOfEqualBills has tariffs that have some bills in common.
func TestEquivalentOfEqualBills(t *testing.T) {
	checkEquivalent(t, of(0, 1, 5, 2, 3, 0, 1), of(0, 1, 3, 2, 5, 0, 1), false)
	checkEquivalent(t, of(7, 1, 0, 0, 1), of(0, 1, 7, 0, 1), false)
	checkEquivalent(t, of(0, 0, 0), of(0, 1, 0, 2, 0, 0, 0), true)
	checkEquivalent(t, of(0, 0, 0), of(0, 1, 0, 2, 0, 0, 1), false)
	checkEquivalent(t, of(1<<40, 0, 1<<40), of(1<<40, 1<<40, 1<<40, 0, 1<<40), true)
}

// TestEquivalentOfInvalidTariffs has pairs of tariffs of which at least one is not valid, though their units would have
// the same prices.
func TestEquivalentOfInvalidTariffs(t *testing.T) {
	bad := []api.Tariff{
		{}, of(500), of(-1, 100, 20, 0, 30), of(1<<40+1, 100, 20, 0, 30), of(500, 100, 20), of(500, 100, 20, 200, 30), of(500, 100, 20, 0, 30, 0, 30), of(500, 0, 20, 100, 20, 0, 30),
		of(500, 100, 20, 100, 20, 0, 30), of(500, 100, 20, 1<<40+1, 30, 0, 30), of(500, -1, 20, 100, 20, 0, 30), of(500, 100, -20, 0, 30), of(500, 100, 20, 0, 1<<40+1),
		of(500, 1, 20, 2, 20, 3, 20, 4, 20, 5, 20, 6, 20, 7, 20, 100, 20, 0, 30),
	}
	for _, x := range bad {
		checkEquivalent(t, x, example(), false)
		for _, other := range bad {
			checkEquivalent(t, x, other, false)
		}
	}
}

func TestRandomEquivalents(t *testing.T) {
	random := rand.New(rand.NewPCG(5, 41))
	found := 0
	for range 200 {
		var list []api.Tariff
		for range 30 {
			x := randomTariff(random, 4)
			x.Standing %= 2
			for i := range x.Blocks {
				x.Blocks[i].Price %= 2
			}
			list = append(list, x)
		}
		for _, a := range list {
			for _, b := range list {
				want := wantEquivalent(a, b)
				checkEquivalent(t, a, b, want)
				if want && !slices.Equal(a.Blocks, b.Blocks) {
					found++
				}
			}
		}
	}
	if found < 1000 {
		t.Error("the tariffs are too different", found)
	}
}

// TestSplitBlocks divides each block in two of the same price.
func TestSplitBlocks(t *testing.T) {
	random := rand.New(rand.NewPCG(6, 41))
	for range 500 {
		x := randomTariff(random, 1<<40)
		low := int64(0)
		for i, b := range x.Blocks {
			upTo := b.UpTo
			if upTo == 0 {
				upTo = 1<<40 + 1
			}
			if upTo-low < 2 || len(x.Blocks) == 8 {
				continue
			}
			middle := low + 1 + random.Int64N(upTo-low-1)
			split := api.Tariff{Standing: x.Standing, Blocks: slices.Insert(slices.Clone(x.Blocks), i, api.Block{UpTo: middle, Price: b.Price})}
			checkEquivalent(t, x, split, true)
			split.Blocks[i].Price ^= 1
			split.Blocks[i].Price = min(split.Blocks[i].Price, 1<<40)
			checkEquivalent(t, x, split, split.Blocks[i].Price == b.Price)
			low = upTo
		}
	}
}
