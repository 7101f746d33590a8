package visit

import (
	"slices"

	"priceoffice/api"
	"priceoffice/rational"
)

// Observations returns the observed prices.
func Observations(list []api.Message) []api.Observation {
	found := resolved(list, anySlot)
	prices, offers := map[slot]int64{}, map[slot][]int64{}
	for key, series := range found.series {
		for _, v := range upToEnd(series) {
			switch v.Status {
			case api.StatusPriced, api.StatusSale:
				prices[slot{key, v.Period}] = v.Price
			case api.StatusReplaced:
				successor := slot{item{key.outlet, v.Replacement}, v.Period}
				offers[successor] = append(offers[successor], v.Price)
			}
		}
	}
	for s, offered := range offers {
		if found.vacant(s) && slices.Min(offered) == slices.Max(offered) {
			prices[s] = offered[0]
		}
	}
	return observations(prices)
}

// vacant reports whether a slot can have the price that a visit to a replaced product gives: nobody has visited the
// slot itself, and its product has not ended before.
func (f findings) vacant(s slot) bool {
	end, ended := endOf(f.series[s.item])
	return f.verdicts[s] == api.VerdictNone && !(ended && end.Period < s.period)
}

func observations(prices map[slot]int64) []api.Observation {
	var list []api.Observation
	for _, s := range sortedSlots(prices) {
		list = append(list, api.Observation{Outlet: s.outlet, Product: s.product, Period: s.period, Price: rational.FromInt(prices[s])})
	}
	return list
}

// Disputed returns the disputed slots.
func Disputed(list []api.Message) []api.Visit {
	var disputed []api.Visit
	verdicts := resolved(list, anySlot).verdicts
	for _, s := range sortedSlots(verdicts) {
		if verdicts[s] == api.VerdictDisputed {
			disputed = append(disputed, api.Visit{Outlet: s.outlet, Product: s.product, Period: s.period})
		}
	}
	return disputed
}
