package sample

import (
	"math"
	"math/big"
	"math/rand/v2"
	"slices"
	"testing"

	"priceoffice/api"
	"priceoffice/natural"
)

// plain is a sample by the definitions of the document, in math/big. A unit that is certain has no piece.
type plain struct {
	certain   []bool
	sum       *big.Rat
	points    int
	low, high []*big.Rat
}

func plainDraw(sizes []int64, n int) plain {
	d := plain{certain: make([]bool, len(sizes)), points: n, low: make([]*big.Rat, len(sizes)), high: make([]*big.Rat, len(sizes))}
	for {
		d.sum = new(big.Rat)
		greatest := -1
		for i, size := range sizes {
			if d.certain[i] {
				continue
			}
			d.sum.Add(d.sum, big.NewRat(size, 1))
			if greatest < 0 || size > sizes[greatest] {
				greatest = i
			}
		}
		if greatest < 0 || d.times(big.NewRat(sizes[greatest], 1)).Cmp(d.sum) < 0 {
			break
		}
		d.certain[greatest] = true
		d.points--
	}
	end := new(big.Rat)
	for i, size := range sizes {
		if !d.certain[i] {
			d.low[i] = end
			end = new(big.Rat).Add(end, big.NewRat(size, 1))
			d.high[i] = end
		}
	}
	return d
}

// times returns x times the number of points.
func (d plain) times(x *big.Rat) *big.Rat {
	return new(big.Rat).Mul(x, big.NewRat(int64(d.points), 1))
}

func (d plain) inclusion() []*big.Rat {
	var list []*big.Rat
	for i, certain := range d.certain {
		p := big.NewRat(1, 1)
		if !certain {
			p = d.times(new(big.Rat).Sub(d.high[i], d.low[i]))
			p.Quo(p, d.sum)
		}
		list = append(list, p)
	}
	return list
}

// systematic looks for every point at every unit.
func (d plain) systematic(start *big.Rat) []int {
	var units []int
	for i, certain := range d.certain {
		selected := certain
		for k := range d.points {
			point := new(big.Rat).Add(start, big.NewRat(int64(k), 1))
			point.Mul(point, d.sum).Quo(point, big.NewRat(int64(d.points), 1))
			selected = selected || !certain && d.low[i].Cmp(point) <= 0 && point.Cmp(d.high[i]) < 0
		}
		if selected {
			units = append(units, i)
		}
	}
	return units
}

func (d plain) breaks() []*big.Rat {
	list := []*big.Rat{new(big.Rat)}
	for i, certain := range d.certain {
		if !certain {
			x := d.times(d.low[i])
			x.Quo(x, d.sum)
			list = append(list, x.Sub(x, new(big.Rat).SetInt(new(big.Int).Quo(x.Num(), x.Denom()))))
		}
	}
	slices.SortFunc(list, (*big.Rat).Cmp)
	return slices.CompactFunc(list, func(x, y *big.Rat) bool { return x.Cmp(y) == 0 })
}

// checkDraw compares the functions with the definitions, for the given starts, for those at which the sample changes,
// and for those in between, some of which are near to the ends.
func checkDraw(t *testing.T, sizes []int64, n int, starts ...*big.Rat) {
	t.Helper()
	d := plainDraw(sizes, n)
	inclusion, e := Inclusion(sizes, n)
	if e != api.OK || !sameRatios(inclusion, d.inclusion()) || sumOf(inclusion).Cmp(big.NewRat(int64(n), 1)) != 0 {
		t.Error("Inclusion", sizes, n, inclusion, e)
	}
	breaks, e := Breaks(sizes, n)
	if e != api.OK || !sameRatios(breaks, d.breaks()) {
		t.Error("Breaks", sizes, n, breaks, e)
	}
	lengths := make([]*big.Rat, len(sizes))
	for i := range lengths {
		lengths[i] = new(big.Rat)
	}
	ends := append(d.breaks(), big.NewRat(1, 1))
	for i, low := range ends[:len(ends)-1] {
		length := new(big.Rat).Sub(ends[i+1], low)
		within := []*big.Rat{low}
		for _, part := range []*big.Rat{big.NewRat(1, 2), big.NewRat(1, 1<<60), big.NewRat(1<<60-1, 1<<60)} {
			within = append(within, part.Mul(part, length).Add(part, low))
		}
		units := checkSystematic(t, d, sizes, n, low)
		for _, start := range within {
			if got := checkSystematic(t, d, sizes, n, start); !slices.Equal(got, units) {
				t.Error("the sample changes from", low, "to", start)
			}
		}
		for _, unit := range units {
			lengths[unit].Add(lengths[unit], length)
		}
	}
	if !sameRatios(inclusion, lengths) {
		t.Error("the lengths do not add up to the inclusion", sizes, n, lengths)
	}
	for _, start := range starts {
		checkSystematic(t, d, sizes, n, start)
	}
}

// checkSystematic compares the sample of one start with the definitions and returns it.
func checkSystematic(t *testing.T, d plain, sizes []int64, n int, start *big.Rat) []int {
	t.Helper()
	got, e := Systematic(sizes, n, ratio(start))
	if e != api.OK || len(got) != n || !slices.Equal(got, d.systematic(start)) {
		t.Error("Systematic", sizes, n, start, got, e)
	}
	if other, e := Systematic(sizes, n, loose(ratio(start))); e != api.OK || !slices.Equal(other, got) {
		t.Error("Systematic by a loose start", sizes, n, start, other, e)
	}
	return got
}

func TestDraw(t *testing.T) {
	for i, x := range []struct {
		sizes             []int64
		n                 int
		inclusion, breaks []api.Ratio
		start             api.Ratio
		units             []int
	}{
		{[]int64{10, 1, 1}, 2, fractions(1, 1, 1, 2, 1, 2), fractions(0, 1, 1, 2), fraction(1, 2), []int{0, 2}},
		{[]int64{10, 1, 1}, 2, fractions(1, 1, 1, 2, 1, 2), fractions(0, 1, 1, 2), fraction(49, 100), []int{0, 1}},
		{[]int64{1, 1, 1, 1}, 2, fractions(1, 2, 1, 2, 1, 2, 1, 2), fractions(0, 1, 1, 2), fraction(0, 1), []int{0, 2}},
		{[]int64{3, 2, 5}, 1, fractions(3, 10, 1, 5, 1, 2), fractions(0, 1, 3, 10, 1, 2), fraction(3, 10), []int{1}},
		{[]int64{4, 4}, 2, fractions(1, 1, 1, 1), fractions(0, 1), fraction(1, 2), []int{0, 1}},
		{[]int64{7}, 1, fractions(1, 1), fractions(0, 1), fraction(1, 3), []int{0}},
		{[]int64{2, 9, 2, 6, 2}, 3, fractions(1, 3, 1, 1, 1, 3, 1, 1, 1, 3), fractions(0, 1, 1, 3, 2, 3), fraction(2, 3), []int{1, 3, 4}},
		// One unit has exactly the interval, and is certain; then the others share the second point.
		{[]int64{1, 2, 1}, 2, fractions(1, 2, 1, 1, 1, 2), fractions(0, 1, 1, 2), fraction(0, 1), []int{0, 1}},
		// A unit becomes certain by what another one, which became certain before, has left.
		{[]int64{1, 5, 1, 20}, 3, fractions(1, 2, 1, 1, 1, 2, 1, 1), fractions(0, 1, 1, 2), fraction(3, 4), []int{1, 2, 3}},
	} {
		inclusion, e := Inclusion(x.sizes, x.n)
		breaks, f := Breaks(x.sizes, x.n)
		units, g := Systematic(x.sizes, x.n, x.start)
		if e != api.OK || f != api.OK || g != api.OK {
			t.Error(i, e, f, g)
		}
		if !slices.EqualFunc(inclusion, x.inclusion, sameRatio) || !slices.EqualFunc(breaks, x.breaks, sameRatio) || !slices.Equal(units, x.units) {
			t.Error(i, inclusion, breaks, units)
		}
		checkDraw(t, x.sizes, x.n, value(x.start))
	}
}

func sameRatio(x, y api.Ratio) bool { return denotes(x, value(y)) }

// TestDrawFromEverySmallList has all lists of up to four sizes from 1 to 6.
func TestDrawFromEverySmallList(t *testing.T) {
	var sizes []int64
	var extend func()
	extend = func() {
		for n := 1; n <= len(sizes); n++ {
			checkDraw(t, sizes, n)
		}
		if len(sizes) == 4 {
			return
		}
		for size := range int64(6) {
			sizes = append(sizes, size+1)
			extend()
			sizes = sizes[:len(sizes)-1]
		}
	}
	extend()
}

func scatteredSizes(random *rand.Rand, length int) []int64 {
	most := []int64{2, 5, 100, 1 << 20, api.MaxQuantity}[random.IntN(5)]
	var sizes []int64
	for range length {
		size := 1 + random.Int64N(most)
		if random.IntN(6) == 0 {
			size = min(size*int64(1+random.IntN(2*length)), api.MaxQuantity)
		}
		sizes = append(sizes, size)
	}
	return sizes
}

func TestDrawFromScatteredSizes(t *testing.T) {
	random := rand.New(rand.NewPCG(4, 29))
	for range 150 {
		sizes := scatteredSizes(random, 1+random.IntN(12))
		den := 1 + random.Int64N(1<<40)
		checkDraw(t, sizes, 1+random.IntN(len(sizes)), big.NewRat(random.Int64N(den), den), big.NewRat(random.Int64N(12), 12))
	}
}

func TestDrawAtTheLimits(t *testing.T) {
	greatest := slices.Repeat([]int64{api.MaxQuantity}, api.MaxUnits)
	mixed := slices.Clone(greatest)
	for i := range mixed {
		if i%3 > 0 {
			mixed[i] = int64(i)
		}
	}
	start := big.NewRat(math.MaxInt64-1, math.MaxInt64)
	for _, x := range []struct {
		sizes []int64
		n     int
	}{{greatest, 199}, {greatest, 200}, {greatest, 1}, {mixed, 66}, {mixed, 68}, {mixed, 199}, {[]int64{api.MaxQuantity}, 1}, {[]int64{1, api.MaxQuantity}, 1}} {
		d := plainDraw(x.sizes, x.n)
		if inclusion, e := Inclusion(x.sizes, x.n); e != api.OK || !sameRatios(inclusion, d.inclusion()) {
			t.Error("Inclusion", x.n, inclusion, e)
		}
		if breaks, e := Breaks(x.sizes, x.n); e != api.OK || !sameRatios(breaks, d.breaks()) {
			t.Error("Breaks", x.n, breaks, e)
		}
		checkSystematic(t, d, x.sizes, x.n, new(big.Rat))
		checkSystematic(t, d, x.sizes, x.n, start)
	}
}

// TestEstimatorIsUnbiased takes the mean over all starts, as the sample is the same between two breaks.
func TestEstimatorIsUnbiased(t *testing.T) {
	random := rand.New(rand.NewPCG(5, 29))
	for range 100 {
		sizes := scatteredSizes(random, 1+random.IntN(25))
		n := 1 + random.IntN(len(sizes))
		var values []api.Ratio
		for range sizes {
			values = append(values, fraction(random.Int64N(2001)-1000, 1+random.Int64N(9)))
		}
		inclusion, _ := Inclusion(sizes, n)
		breaks, _ := Breaks(sizes, n)
		mean := new(big.Rat)
		for i, start := range breaks {
			end := big.NewRat(1, 1)
			if i+1 < len(breaks) {
				end = value(breaks[i+1])
			}
			units, _ := Systematic(sizes, n, start)
			var drawn, probabilities []api.Ratio
			for _, unit := range units {
				drawn, probabilities = append(drawn, values[unit]), append(probabilities, inclusion[unit])
			}
			estimate, e := Estimate(drawn, probabilities)
			if e != api.OK {
				t.Error(e)
			}
			part := end.Sub(end, value(start))
			mean.Add(mean, part.Mul(part, value(estimate)))
		}
		if mean.Cmp(sumOf(values)) != 0 {
			t.Error(sizes, n, mean, sumOf(values))
		}
	}
}

func TestDrawRefuses(t *testing.T) {
	long := slices.Repeat([]int64{1}, api.MaxUnits+1)
	late := append(slices.Repeat([]int64{1}, api.MaxUnits-1), 0)
	huge, _ := natural.Power(api.Nat{10}, 400)
	one, none := fraction(1, 1), api.Ratio{}
	for i, x := range []struct {
		sizes []int64
		n     int
		start api.Ratio
		e     api.Errno
	}{
		{nil, 1, none, api.ErrSampleSizes}, {[]int64{}, 0, none, api.ErrSampleSizes}, {long, 1, none, api.ErrSampleSizes}, {long[1:], 200, none, api.OK}, {long[1:], 201, none, api.ErrSampleNumber},
		{[]int64{0}, 1, none, api.ErrSampleSizes}, {[]int64{-1}, 1, none, api.ErrSampleSizes}, {[]int64{math.MinInt64, 1}, 1, none, api.ErrSampleSizes}, {[]int64{1, 0, 1}, 1, none, api.ErrSampleSizes},
		{[]int64{api.MaxQuantity}, 1, none, api.OK}, {[]int64{api.MaxQuantity + 1}, 1, none, api.ErrSampleSizes}, {[]int64{1, math.MaxInt64}, 1, none, api.ErrSampleSizes}, {late, 1, none, api.ErrSampleSizes},
		{[]int64{1, 1}, 0, none, api.ErrSampleNumber}, {[]int64{1, 1}, -1, none, api.ErrSampleNumber}, {[]int64{1, 1}, 3, none, api.ErrSampleNumber}, {[]int64{1, 1}, 2, none, api.OK},
		{[]int64{1, 1}, math.MinInt, none, api.ErrSampleNumber}, {[]int64{1, 1}, math.MaxInt, none, api.ErrSampleNumber},
		// The sizes come before the number, and the number before the start.
		{nil, 0, one, api.ErrSampleSizes}, {[]int64{1, 0}, 9, one, api.ErrSampleSizes}, {[]int64{1, 2}, 9, one, api.ErrSampleNumber}, {[]int64{1, 2}, 0, fraction(-1, 2), api.ErrSampleNumber},
		{[]int64{1, 2}, 1, one, api.ErrSampleStart}, {[]int64{1, 2}, 2, one, api.ErrSampleStart}, {[]int64{1, 2}, 1, fraction(7, 2), api.ErrSampleStart}, {[]int64{1, 2}, 1, fraction(-1, 9), api.ErrSampleStart},
		{[]int64{1, 2}, 1, api.Ratio{Num: huge, Den: huge}, api.ErrSampleStart}, {[]int64{1, 2}, 1, api.Ratio{Num: huge, Den: natural.Add(huge, api.Nat{1})}, api.OK},
		{[]int64{1, 2}, 1, api.Ratio{Num: api.Nat{1}, Den: api.Nat{0, 0}}, api.ErrSampleStart}, {[]int64{1, 2}, 1, api.Ratio{Neg: true, Num: api.Nat{0}, Den: api.Nat{0}}, api.OK},
		{[]int64{1, 2}, 1, api.Ratio{Neg: true, Num: api.Nat{1}, Den: huge}, api.ErrSampleStart}, {[]int64{1, 2}, 1, api.Ratio{Num: api.Nat{1}, Den: huge}, api.OK},
	} {
		units, e := Systematic(x.sizes, x.n, x.start)
		inclusion, f := Inclusion(x.sizes, x.n)
		breaks, g := Breaks(x.sizes, x.n)
		want := x.e
		if want == api.ErrSampleStart {
			want = api.OK
		}
		if e != x.e || f != want || g != want {
			t.Error(i, e, f, g)
		}
		if e != api.OK && len(units) > 0 || f != api.OK && len(inclusion)+len(breaks) > 0 {
			t.Error(i, units, inclusion, breaks)
		}
	}
}
