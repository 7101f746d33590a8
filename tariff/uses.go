package tariff

import (
	"priceoffice/api"
	"priceoffice/rational"
)

// Average returns the mean bill over a profile of uses.
func Average(t api.Tariff, uses []api.Use) (api.Ratio, api.Errno) {
	if e := Validate(t); e != api.OK {
		return api.Ratio{}, e
	}
	if !areUses(uses) {
		return api.Ratio{}, api.ErrTariffUses
	}
	return average(t, uses), api.OK
}

func areUses(uses []api.Use) bool {
	if len(uses) == 0 || len(uses) > api.MaxUses {
		return false
	}
	for _, u := range uses {
		if !isAmount(u.Amount) || u.Count < 1 || u.Count > api.MaxQuantity {
			return false
		}
	}
	return true
}

// average returns the mean bill by a valid tariff over uses, which are as they have to be.
func average(t api.Tariff, uses []api.Use) api.Ratio {
	sum, count := api.Ratio{}, int64(0)
	for _, u := range uses {
		sum = rational.Add(sum, times(u.Count, bill(t, u.Amount)))
		count += u.Count
	}
	mean, _ := rational.Quo(sum, rational.FromInt(count))
	return mean
}

// Index returns the quotient of the mean bills.
func Index(base, current api.Tariff, uses []api.Use) (api.Ratio, api.Errno) {
	if e := Validate(base); e != api.OK {
		return api.Ratio{}, e
	}
	mean, e := Average(current, uses)
	if e != api.OK {
		return api.Ratio{}, e
	}
	index, e := rational.Quo(mean, average(base, uses))
	if e != api.OK {
		return api.Ratio{}, api.ErrTariffZero
	}
	return index, api.OK
}
