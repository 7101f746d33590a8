package tariff

import (
	"priceoffice/api"
	"priceoffice/rational"
)

// Bill returns the bill for an amount.
func Bill(t api.Tariff, amount int64) (api.Ratio, api.Errno) {
	if e := check(t, amount); e != api.OK {
		return api.Ratio{}, e
	}
	return bill(t, amount), api.OK
}

// Marginal returns the price of the next unit.
func Marginal(t api.Tariff, amount int64) (int64, api.Errno) {
	if e := check(t, amount); e != api.OK {
		return 0, e
	}
	price := int64(0)
	for s := range stretches(t) {
		price = s.price
		if amount < s.upTo {
			break
		}
	}
	return price, api.OK
}

// check returns the first error of a tariff and an amount.
func check(t api.Tariff, amount int64) api.Errno {
	if e := Validate(t); e != api.OK {
		return e
	}
	if !isAmount(amount) {
		return api.ErrTariffAmount
	}
	return api.OK
}

func isAmount(n int64) bool {
	return n >= 0 && n <= api.MaxQuantity
}

// bill returns the bill for an amount by a valid tariff.
func bill(t api.Tariff, amount int64) api.Ratio {
	sum := rational.FromInt(t.Standing)
	for s := range stretches(t) {
		if amount <= s.before {
			break
		}
		sum = rational.Add(sum, times(min(amount, s.upTo)-s.before, rational.FromInt(s.price)))
	}
	return sum
}

func times(count int64, value api.Ratio) api.Ratio {
	return rational.Mul(rational.FromInt(count), value)
}
