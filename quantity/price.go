package quantity

import (
	"priceoffice/api"
	"priceoffice/rational"
)

// Factor returns the total of b by the total of a.
func Factor(a, b api.Quantity) (api.Ratio, api.Errno) {
	if e := Validate(a); e != api.OK {
		return api.Ratio{}, e
	}
	if e := Validate(b); e != api.OK {
		return api.Ratio{}, e
	}
	if a.Dimension != b.Dimension {
		return api.Ratio{}, api.ErrQuantityUnlike
	}
	return rational.Fraction(Total(b), Total(a))
}

// UnitPrice returns the price per standard unit.
func UnitPrice(price api.Ratio, q api.Quantity) (api.Ratio, api.Errno) {
	if e := Validate(q); e != api.OK {
		return api.Ratio{}, e
	}
	share, _ := rational.Fraction(standardUnit(q.Dimension).size, Total(q))
	return rational.Mul(price, share), api.OK
}

// Scale returns the price of to at the unit price of from.
func Scale(price api.Ratio, from, to api.Quantity) (api.Ratio, api.Errno) {
	factor, e := Factor(from, to)
	if e != api.OK {
		return api.Ratio{}, e
	}
	return rational.Mul(price, factor), api.OK
}
