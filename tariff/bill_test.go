package tariff

import (
	"math/big"
	"math/rand/v2"
	"testing"

	"priceoffice/api"
	"priceoffice/rational"
)

// checkBill compares Bill and Marginal with their descriptions for a valid tariff.
func checkBill(t *testing.T, x api.Tariff, amount int64) {
	t.Helper()
	if bill, e := Bill(x, amount); e != api.OK || !denotes(bill, wantBill(x, amount)) {
		t.Errorf("Bill of %v for %d: %v, %v, want %v", x, amount, bill, e, wantBill(x, amount))
	}
	if price, e := Marginal(x, amount); e != api.OK || price != wantPrice(x, amount+1) {
		t.Errorf("Marginal of %v for %d: %v, %v, want %v", x, amount, price, e, wantPrice(x, amount+1))
	}
}

// checkUnits adds up the prices of the first units one by one.
func checkUnits(t *testing.T, x api.Tariff, units int64) {
	t.Helper()
	sum := big.NewInt(x.Standing)
	for amount := range units + 1 {
		if bill, e := Bill(x, amount); e != api.OK || !denotes(bill, new(big.Rat).SetInt(sum)) {
			t.Errorf("Bill of %v for %d: %v, %v, want %v", x, amount, bill, e, sum)
		}
		checkBill(t, x, amount)
		sum.Add(sum, big.NewInt(wantPrice(x, amount+1)))
	}
}

func TestBillsOfTheExample(t *testing.T) {
	for _, x := range []struct{ amount, bill, price int64 }{{0, 500, 20}, {1, 520, 20}, {99, 2480, 20}, {100, 2500, 30}, {101, 2530, 30}, {150, 4000, 30}} {
		bill, e := Bill(example(), x.amount)
		price, other := Marginal(example(), x.amount)
		if e != api.OK || other != api.OK || !denotes(bill, big.NewRat(x.bill, 1)) || price != x.price {
			t.Error(x, bill, e, price, other)
		}
	}
	checkUnits(t, example(), 300)
}

func TestBillsOfManyBlocks(t *testing.T) {
	checkUnits(t, of(0, 0, 0), 20)
	checkUnits(t, of(9, 0, 0), 20)
	checkUnits(t, of(0, 0, 4), 20)
	checkUnits(t, of(3, 1, 7, 2, 0, 5, 3, 0, 1), 20)
	checkUnits(t, of(3, 1, 1<<40, 2, 5, 3, 0, 4, 1<<40, 5, 2, 6, 3, 7, 5, 0, 0), 20)
	checkUnits(t, of(1<<40, 2, 1<<40, 4, 1<<40, 7, 1<<40, 11, 1<<40, 16, 1<<40, 22, 1<<40, 29, 1<<40, 0, 1<<40), 40)
}

// TestGreatBills has the greatest amounts and prices, and blocks that end at the last amount or near it.
func TestGreatBills(t *testing.T) {
	bill, e := Bill(of(1<<40, 0, 1<<40), 1<<40)
	want := new(big.Int).Lsh(big.NewInt(1<<40+1), 40)
	if e != api.OK || !denotes(bill, new(big.Rat).SetInt(want)) {
		t.Error(bill, e)
	}
	for _, amount := range []int64{0, 1, 2, 1 << 31, 1<<32 - 1, 1 << 32, 1<<32 + 1, 1 << 39, 1<<40 - 3, 1<<40 - 2, 1<<40 - 1, 1 << 40} {
		checkBill(t, of(1<<40, 0, 1<<40), amount)
		checkBill(t, of(9, 1<<40, 1<<40, 0, 7), amount)
		checkBill(t, of(9, 1<<40-1, 5, 1<<40, 6, 0, 7), amount)
		checkBill(t, of(0, 1, 1<<40, 1<<32, 1<<40-1, 1<<40-2, 1, 1<<40-1, 0, 0, 1<<39), amount)
	}
}

func TestRandomBills(t *testing.T) {
	random := rand.New(rand.NewPCG(1, 41))
	for range 300 {
		checkUnits(t, randomTariff(random, 12), 15)
		x := randomTariff(random, 1<<40)
		for _, b := range x.Blocks {
			for _, amount := range []int64{b.UpTo - 1, b.UpTo, b.UpTo + 1} {
				checkBill(t, x, min(max(amount, 0), 1<<40))
			}
		}
		for range 10 {
			checkBill(t, x, random.Int64N(1<<40+1))
		}
	}
}

// TestMarginalIsTheNextUnit compares the bills of successive amounts.
func TestMarginalIsTheNextUnit(t *testing.T) {
	random := rand.New(rand.NewPCG(2, 41))
	for range 200 {
		for _, end := range []int64{10, 1 << 40} {
			x := randomTariff(random, end)
			amount := random.Int64N(end)
			bill, _ := Bill(x, amount)
			next, _ := Bill(x, amount+1)
			price, _ := Marginal(x, amount)
			if !same(rational.Sub(next, bill), rational.FromInt(price)) {
				t.Error(x, amount, bill, next, price)
			}
		}
	}
}
