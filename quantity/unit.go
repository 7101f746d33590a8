package quantity

import (
	"priceoffice/api"
	"priceoffice/natural"
	"priceoffice/rational"
)

// unit is a unit of a dimension, with its base units.
type unit struct {
	name      string
	dimension int
	size      int64
	// forMultiples says that only integer multiples of the unit are written in it.
	forMultiples bool
}

// units returns all units. Those of a dimension stand from the greatest one, which is the standard unit, to the least.
func units() []unit {
	return []unit{
		{"kg", api.Mass, 1000000, false},
		{"g", api.Mass, 1000, false},
		{"mg", api.Mass, 1, false},
		{"l", api.Volume, 1000, false},
		{"cl", api.Volume, 10, true},
		{"ml", api.Volume, 1, false},
		{"m", api.Length, 1000, false},
		{"cm", api.Length, 10, true},
		{"mm", api.Length, 1, false},
		{"pc", api.Pieces, 1, false},
	}
}

// firstUnit returns the first unit that is sought. Where there is none, the result has no dimension and no base units.
func firstUnit(sought func(unit) bool) unit {
	for _, u := range units() {
		if sought(u) {
			return u
		}
	}
	return unit{}
}

// unitNamed returns the unit with a name.
func unitNamed(name string) unit {
	return firstUnit(func(u unit) bool { return u.name == name })
}

// standardUnit returns the unit of a dimension that unit prices refer to.
func standardUnit(dimension int) unit {
	return firstUnit(func(u unit) bool { return u.dimension == dimension })
}

// unitFor returns the unit in which an amount of a dimension is written.
func unitFor(dimension int, amount int64) unit {
	return firstUnit(func(u unit) bool { return u.dimension == dimension && u.suits(amount) })
}

func (u unit) suits(amount int64) bool {
	return amount >= u.size && (!u.forMultiples || amount%u.size == 0)
}

// amount returns the base units that a decimal number of a unit denotes, or 0 if it denotes no valid amount.
func (u unit) amount(number string) int64 {
	x, e := rational.Parse(number)
	if e != api.OK {
		return 0
	}
	base := rational.Mul(x, rational.FromInt(u.size))
	// What is too large for Uint is 0 for it, too.
	value, _ := natural.Uint(base.Num)
	if base.Neg || len(base.Den) > 0 || value > api.MaxQuantity {
		return 0
	}
	return int64(value)
}
