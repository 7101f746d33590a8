package sample

import (
	"cmp"
	"slices"

	"priceoffice/api"
	"priceoffice/rational"
)

// draw is how a sample is drawn: some units are certain, the others have pieces of a line with points. The line is
// stretched by the number of points, so that the interval between two of them is an integer.
type draw struct {
	certain          []int
	pieces           []piece
	points, interval int64
}

// piece is the part of the line from low up to, but not at, high that belongs to a unit.
type piece struct {
	unit      int
	low, high int64
}

// newDraw returns how a sample of n units is drawn.
func newDraw(sizes []int64, n int) (draw, api.Errno) {
	switch {
	case !areSizes(sizes):
		return draw{}, api.ErrSampleSizes
	case n < 1 || n > len(sizes):
		return draw{}, api.ErrSampleNumber
	}
	d := draw{points: int64(n)}
	for _, size := range sizes {
		d.interval += size
	}
	d.setCertain(sizes)
	d.layOut(sizes)
	return d, api.OK
}

// areSizes reports whether a sample can be drawn by these sizes.
func areSizes(sizes []int64) bool {
	if len(sizes) == 0 || len(sizes) > api.MaxUnits {
		return false
	}
	for _, size := range sizes {
		if size < 1 || size > api.MaxQuantity {
			return false
		}
	}
	return true
}

// setCertain takes the certain units out of the sum of the sizes and out of the number of points.
func (d *draw) setCertain(sizes []int64) {
	largestFirst := ranked(len(sizes), func(a, b int) int { return cmp.Compare(sizes[b], sizes[a]) })
	for _, unit := range largestFirst {
		if sizes[unit]*d.points < d.interval {
			return
		}
		d.certain = append(d.certain, unit)
		d.interval -= sizes[unit]
		d.points--
	}
}

// layOut lays the units that are not certain one after the other.
func (d *draw) layOut(sizes []int64) {
	low := int64(0)
	for unit, size := range sizes {
		if slices.Contains(d.certain, unit) {
			continue
		}
		high := low + size*d.points
		d.pieces = append(d.pieces, piece{unit: unit, low: low, high: high})
		low = high
	}
}

// selected returns the units whose pieces hold a point.
func (d draw) selected(start api.Ratio) []int {
	var units []int
selection:
	for _, p := range d.pieces {
		switch before := d.pointsBefore(p.low, start); {
		case before == d.points:
			break selection
		case before < d.pointsBefore(p.high, start):
			units = append(units, p.unit)
		}
	}
	return units
}

// pointsBefore returns how many points the line has before a place.
func (d draw) pointsBefore(place int64, start api.Ratio) int64 {
	count := place / d.interval
	if rational.Compare(start, d.part(place%d.interval)) < 0 {
		count++
	}
	return count
}

// part returns which part of the interval a length is. If all units are certain, there is no interval, and the only
// length is 0.
func (d draw) part(length int64) api.Ratio {
	part, _ := rational.Fraction(length, max(d.interval, 1))
	return part
}
