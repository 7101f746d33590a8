package scanner

import (
	"fmt"
	"math"
	"math/big"
	"math/rand/v2"
	"slices"
	"testing"

	"priceoffice/api"
)

// checkCombine checks the combined rows of a valid list, in several orders, and what is observed in them.
func checkCombine(t *testing.T, rows []api.Row) {
	t.Helper()
	want := wantCombine(rows)
	back := slices.Clone(rows)
	slices.Reverse(back)
	half := len(rows) / 2
	for _, same := range [][]api.Row{rows, back, slices.Concat(rows[half:], rows[:half])} {
		if got, e := Combine(same); e != api.OK || !slices.Equal(got, want) {
			t.Fatalf("Combine of %v: %v, %v, want %v", some(same), some(got), e, some(want))
		}
		observed, e := Observations(same)
		if e != api.OK || len(observed) != len(want) {
			t.Fatalf("Observations of %v: %v, %v", some(same), some(observed), e)
		}
		for i, o := range observed {
			r := want[i]
			if o.Outlet != r.Outlet || o.Product != r.Product || o.Period != r.Period || !denotes(o.Price, big.NewRat(r.Turnover, r.Units)) {
				t.Fatalf("%v: the price of %v is %+v", some(same), r, o)
			}
		}
	}
}

func checkCombineIs(t *testing.T, rows []api.Row, want ...api.Row) {
	t.Helper()
	if got, e := Combine(rows); e != api.OK || !slices.Equal(got, want) {
		t.Fatalf("Combine of %v: %v, %v, want %v", some(rows), some(got), e, some(want))
	}
	checkCombine(t, rows)
}

func TestCombineOfTheExample(t *testing.T) {
	rows := []api.Row{row("o", cola, 5, 2, 300), row("o", cola, 5, 1, 120)}
	checkCombineIs(t, rows, row("o", cola, 5, 3, 420))
	observed, e := Observations(rows)
	if e != api.OK || len(observed) != 1 || !denotes(observed[0].Price, big.NewRat(140, 1)) {
		t.Error(observed, e)
	}
}

func TestCombineOfFewRows(t *testing.T) {
	checkCombineIs(t, nil)
	checkCombineIs(t, []api.Row{})
	r := row("o", cola, 5, 2, 300)
	checkCombineIs(t, []api.Row{r}, r)
	// Repeated rows are not one row.
	checkCombineIs(t, []api.Row{r, r}, row("o", cola, 5, 4, 600))
	for _, other := range []api.Row{row("n", cola, 5, 2, 300), row("o", juice, 5, 2, 300), row("o", cola, 4, 2, 300)} {
		checkCombineIs(t, []api.Row{r, other}, other, r)
		checkCombineIs(t, []api.Row{r, other, r}, other, row("o", cola, 5, 4, 600))
	}
}

// TestOrderOfCombinedRows has strings in their order bytewise and periods in that of numbers.
func TestOrderOfCombinedRows(t *testing.T) {
	var sorted []api.Row
	for _, outlet := range []string{"0", "10", "9", "a", "a-", "a-z", "a.", "a0", "aa", "b"} {
		for _, id := range []string{water, juice, tea, cola} {
			for _, period := range []int{0, 9, 10, 99, 100, 999, 1000, 5999} {
				sorted = append(sorted, row(outlet, id, period, int64(len(sorted)+1), 7))
			}
		}
	}
	random := rand.New(rand.NewPCG(1, 38))
	for range 20 {
		rows := slices.Clone(sorted)
		random.Shuffle(len(rows), func(i, k int) { rows[i], rows[k] = rows[k], rows[i] })
		checkCombineIs(t, rows, sorted...)
	}
}

func TestGreatSums(t *testing.T) {
	most := row("o", cola, 5, api.MaxPrice, api.MaxPrice)
	checkCombineIs(t, []api.Row{most, most}, row("o", cola, 5, 2<<40, 2<<40))
	checkCombineIs(t, []api.Row{most, row("o", cola, 5, 1, 2)}, row("o", cola, 5, 1<<40+1, 1<<40+2))
	checkCombineIs(t, slices.Repeat([]api.Row{most}, 24000), row("o", cola, 5, 24000<<40, 24000<<40))
	units := slices.Repeat([]api.Row{row("o", cola, 5, api.MaxPrice, 1)}, 24000)
	checkCombineIs(t, units, row("o", cola, 5, 24000<<40, 24000))
	// What Combine returns need not be valid.
	combined, _ := Combine(units)
	checkError(t, combined, api.ErrScannerRow)
}

// id returns the ID of 13 digits with a number.
func id(number int) string {
	digits := fmt.Sprintf("%012d", number)
	sum := 0
	for i := range digits {
		sum += int(digits[i]-'0') * (1 + i%2*2)
	}
	return digits + fmt.Sprint((10-sum%10)%10)
}

// TestManyRows has as many rows as possible, so that nothing may take time by pairs of them.
func TestManyRows(t *testing.T) {
	var rows []api.Row
	for i := range 24000 {
		rows = append(rows, row("o", id(i), i%6000, int64(i+1), int64(24000-i)))
	}
	checkCombine(t, rows)
	for i := range rows {
		rows[i].Product = id(i % 7000)
	}
	checkCombine(t, rows)
}

func TestUnitValue(t *testing.T) {
	numbers := []int64{math.MinInt64, math.MinInt64 + 1, -1 << 40, -2, -1, 0, 1, 2, 3, 12, 420, 1<<32 - 1, 1 << 32, 1 << 40, 1<<40 + 1, 24000 << 40, math.MaxInt64 - 1, math.MaxInt64}
	for _, units := range numbers {
		for _, turnover := range numbers {
			// The other fields are not looked at.
			for _, r := range []api.Row{row("o", cola, 5, units, turnover), row("", "", -9, units, turnover), row("O", "96385073", 6000, units, turnover)} {
				got, e := UnitValue(r)
				switch {
				case units <= 0 || turnover <= 0:
					if e != api.ErrScannerRow || got.Neg || len(got.Num)+len(got.Den) != 0 {
						t.Error(r, got, e)
					}
				case e != api.OK || !denotes(got, big.NewRat(turnover, units)):
					t.Error(r, got, e)
				}
			}
		}
	}
}

// TestScatteredRows compares with the descriptions, whatever the order of the rows.
func TestScatteredRows(t *testing.T) {
	random := rand.New(rand.NewPCG(2, 38))
	sums := 0
	for range 2000 {
		rows := randomList(random, 30)
		checkCombine(t, rows)
		combined, _ := Combine(rows)
		sums += len(rows) - len(combined)
		random.Shuffle(len(rows), func(i, k int) { rows[i], rows[k] = rows[k], rows[i] })
		if got, e := Combine(rows); e != api.OK || !slices.Equal(got, combined) {
			t.Errorf("Combine of %v: %v, %v, want %v", rows, got, e, combined)
		}
		if got, e := Combine(combined); e != api.OK || !slices.Equal(got, combined) {
			t.Errorf("Combine of %v: %v, %v", combined, got, e)
		}
	}
	if sums < 1000 {
		t.Error("the lists are too plain", sums)
	}
}

// TestUnitValuesLieBetween compares the unit value of a combined row with those of its rows.
func TestUnitValuesLieBetween(t *testing.T) {
	random := rand.New(rand.NewPCG(3, 38))
	for range 2000 {
		rows := randomList(random, 30)
		observed, _ := Observations(rows)
		for _, o := range observed {
			below, above := false, false
			for _, r := range rows {
				if place(r) == place(row(o.Outlet, o.Product, o.Period, 1, 1)) {
					order := big.NewRat(r.Turnover, r.Units).Cmp(value(o.Price))
					below, above = below || order <= 0, above || order >= 0
				}
			}
			if !below || !above {
				t.Errorf("%v: %+v does not lie between", rows, o)
			}
		}
	}
}
