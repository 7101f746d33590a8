package scanner

import (
	"math"
	"math/rand/v2"
	"slices"
	"testing"

	"priceoffice/api"
)

// somePeriods are those of the rows of the tests, and others.
var somePeriods = []int{math.MinInt, -1, 0, 5, 6, 8, 9, 10, 11, 12, 5999, 6000, math.MaxInt}

// someCatalogs returns lists of products, most of them no catalogs.
func someCatalogs() [][]api.Product {
	c, j, w := api.Product{ID: cola}, api.Product{ID: juice, Brand: "acme"}, api.Product{ID: water}
	return [][]api.Product{nil, {}, {{}}, {c}, {{ID: tea}}, {c, c}, {j, w}, {w, c, j, {}, {ID: tea}, {ID: cola, Brand: "b"}}, {{ID: "96385073"}, {Code: cola, Brand: cola}, {ID: cola[:7]}}}
}

// checkShares compares the functions of a period with their descriptions.
func checkShares(t *testing.T, rows []api.Row) {
	t.Helper()
	for _, period := range somePeriods {
		total := wantTurnover(rows, period, anyRow)
		if got := Turnover(rows, period); got != total {
			t.Errorf("Turnover of %v in %d: %d, want %d", rows, period, got, total)
		}
		for _, catalog := range someCatalogs() {
			want := wantTurnover(rows, period, func(r api.Row) bool {
				return slices.ContainsFunc(catalog, func(p api.Product) bool { return p.ID == r.Product })
			})
			if covered, all := Coverage(rows, catalog, period); covered != want || all != total {
				t.Errorf("Coverage of %v by %v in %d: %d, %d, want %d, %d", rows, catalog, period, covered, all, want, total)
			}
		}
		for _, share := range someShares(total) {
			want := wantTop(rows, period, value(share))
			if got := Top(rows, period, share); !slices.Equal(got, want) {
				t.Errorf("Top of %v in %d for %v: %v, want %v", rows, period, share, got, want)
			}
		}
	}
}

// example has the turnovers 60 of cola, 30 of tea and 10 of juice in one period, and others in the next one.
func example() []api.Row {
	return []api.Row{row("o", cola, 5, 1, 35), row("n", cola, 5, 1, 25), row("o", tea, 5, 1, 30), row("o", juice, 5, 1, 10), row("o", juice, 6, 1, 1000)}
}

func TestSharesOfTheExample(t *testing.T) {
	rows := example()
	if Turnover(rows, 5) != 100 || Turnover(rows, 6) != 1000 || Turnover(rows, 7) != 0 {
		t.Error("Turnover")
	}
	if covered, all := Coverage(rows, []api.Product{{ID: cola}, {ID: juice}}, 5); covered != 70 || all != 100 {
		t.Error("Coverage", covered, all)
	}
	for _, x := range []struct {
		share api.Ratio
		want  int
	}{
		{fraction(9, 10), 2}, {fraction(91, 100), 3}, {fraction(1, 2), 1}, {fraction(3, 5), 1}, {fraction(601, 1000), 2}, {fraction(1, 1000000), 1},
		{fraction(0, 1), 0}, {fraction(-1, 2), 0}, {fraction(-9, 1), 0}, {fraction(1, 1), 3}, {fraction(101, 100), 3}, {fraction(9, 1), 3},
	} {
		for _, share := range []api.Ratio{x.share, loose(x.share)} {
			if got := Top(rows, 5, share); !slices.Equal(got, []string{cola, tea, juice}[:x.want]) {
				t.Error(share, got)
			}
		}
	}
	checkShares(t, rows)
}

func TestSharesOfNothing(t *testing.T) {
	checkShares(t, nil)
	checkShares(t, []api.Row{})
	bad := []api.Row{{}, row("O", cola, 5, 1, 1), row("o", "96385073", 5, 1, 1), row("o", cola, -1, 1, 1), row("o", cola, 6000, 1, 1), row("o", cola, 5, 0, 1), row("o", cola, 5, 1, 0), row("o", cola, 5, 1<<40+1, 1), row("o", cola, 5, 1, 1<<40+1)}
	for _, r := range bad {
		for _, rows := range [][]api.Row{append(example(), r), append([]api.Row{r}, example()...)} {
			for _, period := range somePeriods {
				covered, all := Coverage(rows, []api.Product{{ID: cola}}, period)
				if top := Top(rows, period, fraction(1, 1)); Turnover(rows, period) != 0 || covered != 0 || all != 0 || len(top) != 0 {
					t.Error(rows, period, covered, all, top)
				}
			}
		}
	}
}

// TestEqualTurnovers has products whose turnovers are equal only in all outlets.
func TestEqualTurnovers(t *testing.T) {
	rows := []api.Row{row("o", cola, 5, 1, 10), row("o", tea, 5, 1, 10), row("o", juice, 5, 1, 4), row("n", juice, 5, 1, 6), row("o", water, 5, 1, 9), row("o", water, 6, 1, 9)}
	for i, want := range [][]string{{}, {juice}, {juice, tea}, {juice, tea, cola}, {juice, tea, cola, water}} {
		if got := Top(rows, 5, fraction(int64(i*10), 39)); !slices.Equal(got, want) {
			t.Error(i, got)
		}
	}
	checkShares(t, rows)
	checkShares(t, []api.Row{row("o", cola, 0, 9, 1), row("o", cola, 5999, 1, 9)})
}

// TestUnitsDoNotCount has rows with many units of the lesser turnover.
func TestUnitsDoNotCount(t *testing.T) {
	rows := []api.Row{row("o", cola, 5, api.MaxPrice, 3), row("o", tea, 5, 1, 5)}
	if got := Top(rows, 5, fraction(1, 2)); !slices.Equal(got, []string{tea}) || Turnover(rows, 5) != 8 {
		t.Error(got)
	}
	checkShares(t, rows)
}

func TestScatteredShares(t *testing.T) {
	random := rand.New(rand.NewPCG(4, 38))
	for range 150 {
		checkShares(t, randomList(random, 20))
	}
}

// TestCombineKeepsShares compares a list with its combined rows.
func TestCombineKeepsShares(t *testing.T) {
	random := rand.New(rand.NewPCG(5, 38))
	for range 300 {
		rows := randomList(random, 30)
		combined, _ := Combine(rows)
		for _, period := range somePeriods {
			total := Turnover(rows, period)
			if got := Turnover(combined, period); got != total {
				t.Errorf("Turnover of %v in %d: %d, combined %d", rows, period, total, got)
			}
			for _, share := range someShares(total) {
				if first, second := Top(rows, period, share), Top(combined, period, share); !slices.Equal(first, second) {
					t.Errorf("Top of %v in %d for %v: %v, combined %v", rows, period, share, first, second)
				}
			}
		}
	}
}

// TestGreatTurnovers has the greatest list, first of one product and then of many.
func TestGreatTurnovers(t *testing.T) {
	rows := slices.Repeat([]api.Row{row("o", cola, 5, 1, api.MaxPrice)}, 24000)
	covered, all := Coverage(rows, []api.Product{{ID: cola}}, 5)
	if top := Top(rows, 5, fraction(1, 1)); Turnover(rows, 5) != 24000<<40 || covered != 24000<<40 || all != 24000<<40 || !slices.Equal(top, []string{cola}) {
		t.Error(covered, all, some(top))
	}
	var ids []string
	for i := range rows {
		ids = append(ids, id(i))
		rows[i].Product = ids[i]
	}
	// The first product becomes the last one.
	rows[0].Turnover--
	ids = append(ids[1:], ids[0])
	for _, n := range []int{0, 1, 2, 12000, 23998, 23999, 24000} {
		exact, more := fraction(int64(n)<<40, 24000<<40-1), fraction(int64(n)<<40+1, 24000<<40-1)
		if got := Top(rows, 5, exact); !slices.Equal(got, ids[:n]) {
			t.Error(n, len(got))
		}
		if got := Top(rows, 5, more); !slices.Equal(got, ids[:min(n+1, 24000)]) {
			t.Error(n, len(got))
		}
	}
	var catalog []api.Product
	for _, known := range ids[:12000] {
		catalog = append(catalog, api.Product{ID: known}, api.Product{ID: known})
	}
	if covered, all := Coverage(rows, catalog, 5); covered != 12000<<40 || all != 24000<<40-1 {
		t.Error(covered, all)
	}
}

// TestLongShares has numbers of so many limbs that they must not be reduced, with as many products as possible.
func TestLongShares(t *testing.T) {
	var rows []api.Row
	for i := range 24000 {
		rows = append(rows, row("o", id(i), 5, 1, 1))
	}
	const size = 1 << 18
	long := func(high uint32) api.Nat {
		n := make(api.Nat, size)
		for i := range n {
			n[i] = uint32(i)*2654435761 + 7
		}
		n[size-1] = high
		return n
	}
	for _, x := range []struct {
		share api.Ratio
		want  int
	}{
		// A little more than 1/2.
		{api.Ratio{Num: long(1 << 30), Den: long(1 << 31)}, 12001},
		{api.Ratio{Neg: true, Num: long(1), Den: long(2)}, 0}, {api.Ratio{Num: api.Nat{1}, Den: long(1)}, 1}, {api.Ratio{Num: long(1), Den: api.Nat{1}}, 24000},
		{api.Ratio{Num: long(9), Den: long(9)}, 24000}, {api.Ratio{Num: make(api.Nat, size), Den: long(1)}, 0}, {api.Ratio{Num: long(1), Den: make(api.Nat, size)}, 24000},
	} {
		if got := Top(rows, 5, x.share); len(got) != x.want {
			t.Error(x.want, len(got))
		}
	}
}
