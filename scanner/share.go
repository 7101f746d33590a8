package scanner

import (
	"cmp"
	"maps"
	"slices"
	"sort"

	"priceoffice/api"
	"priceoffice/rational"
)

// Turnover returns the turnover of a period.
func Turnover(rows []api.Row, period int) int64 {
	total := int64(0)
	for _, r := range ofPeriod(rows, period) {
		total += r.Turnover
	}
	return total
}

// Coverage returns the turnover of a period in products of the catalog, and in all.
func Coverage(rows []api.Row, catalog []api.Product, period int) (int64, int64) {
	listed := map[string]bool{}
	for _, p := range catalog {
		listed[p.ID] = true
	}
	covered, total := int64(0), int64(0)
	for _, r := range ofPeriod(rows, period) {
		total += r.Turnover
		if listed[r.Product] {
			covered += r.Turnover
		}
	}
	return covered, total
}

// Top returns the products with the greatest turnovers that together reach a share.
func Top(rows []api.Row, period int, share api.Ratio) []string {
	turnovers := map[string]int64{}
	for _, r := range ofPeriod(rows, period) {
		turnovers[r.Product] += r.Turnover
	}
	products := slices.SortedFunc(maps.Keys(turnovers), func(a, b string) int {
		return cmp.Or(cmp.Compare(turnovers[b], turnovers[a]), cmp.Compare(a, b))
	})
	sums := []int64{0}
	for i, id := range products {
		sums = append(sums, sums[i]+turnovers[id])
	}
	return products[:reaching(sums, share)]
}

// reaching returns the place of the first one of ascending sums that is at least a share of the last sum, or the last
// place if there is none.
func reaching(sums []int64, share api.Ratio) int {
	last := len(sums) - 1
	return sort.Search(last, func(i int) bool {
		// A share can be a very long number. To compare it with a short one is fast, a product would have to be reduced.
		part, _ := rational.Fraction(sums[i], sums[last])
		return rational.Compare(part, share) >= 0
	})
}

// ofPeriod returns the rows of a period, or none if the list is not valid.
func ofPeriod(rows []api.Row, period int) []api.Row {
	if Validate(rows) != api.OK {
		return nil
	}
	var list []api.Row
	for _, r := range rows {
		if r.Period == period {
			list = append(list, r)
		}
	}
	return list
}
