package tariff

import (
	"iter"
	"math"

	"priceoffice/api"
)

// noLimit is above every amount. It stands for the end of the last block, which has none.
const noLimit = math.MaxInt64

// stretch is the units from number before + 1 to number upTo, all of one price.
type stretch struct {
	before, upTo, price int64
}

// stretches visits the units of a valid tariff block by block.
func stretches(t api.Tariff) iter.Seq[stretch] {
	return func(yield func(stretch) bool) {
		before := int64(0)
		for _, b := range t.Blocks {
			upTo := b.UpTo
			if upTo == 0 {
				upTo = noLimit
			}
			if !yield(stretch{before: before, upTo: upTo, price: b.Price}) {
				return
			}
			before = upTo
		}
	}
}
