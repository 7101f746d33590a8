package scanner

import (
	"cmp"
	"maps"
	"slices"

	"priceoffice/api"
	"priceoffice/rational"
)

// offer is a product in an outlet in a period.
type offer struct {
	outlet, product string
	period          int
}

// Combine adds up the rows of each outlet, product and period.
func Combine(rows []api.Row) ([]api.Row, api.Errno) {
	if e := Validate(rows); e != api.OK {
		return nil, e
	}
	sums := map[offer]api.Row{}
	for _, r := range rows {
		key := offer{r.Outlet, r.Product, r.Period}
		r.Units += sums[key].Units
		r.Turnover += sums[key].Turnover
		sums[key] = r
	}
	var combined []api.Row
	for _, key := range slices.SortedFunc(maps.Keys(sums), compareOffers) {
		combined = append(combined, sums[key])
	}
	return combined, api.OK
}

func compareOffers(a, b offer) int {
	return cmp.Or(cmp.Compare(a.outlet, b.outlet), cmp.Compare(a.product, b.product), cmp.Compare(a.period, b.period))
}

// UnitValue returns turnover by units.
func UnitValue(r api.Row) (api.Ratio, api.Errno) {
	if r.Units <= 0 || r.Turnover <= 0 {
		return api.Ratio{}, api.ErrScannerRow
	}
	return rational.Fraction(r.Turnover, r.Units)
}

// Observations returns the unit values of combined rows.
func Observations(rows []api.Row) ([]api.Observation, api.Errno) {
	combined, e := Combine(rows)
	if e != api.OK {
		return nil, e
	}
	var list []api.Observation
	for _, r := range combined {
		// The sums of a combined row are positive, so it has a unit value.
		price, _ := UnitValue(r)
		list = append(list, api.Observation{Outlet: r.Outlet, Product: r.Product, Period: r.Period, Price: price})
	}
	return list, api.OK
}
