package sample

import (
	"math/big"
	"math/rand/v2"
	"slices"
	"testing"

	"priceoffice/api"
	"priceoffice/natural"
	"priceoffice/rational"
)

func fraction(num, den int64) api.Ratio {
	x, _ := rational.Fraction(num, den)
	return x
}

// fractions returns the quotients of a list of numerators and denominators.
func fractions(parts ...int64) []api.Ratio {
	var list []api.Ratio
	for pair := range slices.Chunk(parts, 2) {
		list = append(list, fraction(pair[0], pair[1]))
	}
	return list
}

// value returns x as a number of math/big, which the tests compare the package with.
func value(x api.Ratio) *big.Rat {
	integer := func(n api.Nat) *big.Int {
		z := new(big.Int)
		for _, limb := range slices.Backward(n) {
			z.Or(z.Lsh(z, 32), big.NewInt(int64(limb)))
		}
		return z
	}
	num, den := integer(x.Num), integer(x.Den)
	if den.Sign() == 0 {
		den.SetInt64(1)
	}
	if x.Neg {
		num.Neg(num)
	}
	return new(big.Rat).SetFrac(num, den)
}

// ratio returns x as a number of the package.
func ratio(x *big.Rat) api.Ratio {
	limbs := func(z *big.Int) api.Nat {
		var n api.Nat
		for rest := new(big.Int).Abs(z); rest.Sign() > 0; rest.Rsh(rest, 32) {
			n = append(n, uint32(rest.Uint64()))
		}
		return n
	}
	return rational.Normalize(api.Ratio{Neg: x.Sign() < 0, Num: limbs(x.Num()), Den: limbs(x.Denom())})
}

// loose returns x in a form that is not canonical.
func loose(x api.Ratio) api.Ratio {
	if rational.Sign(x) == 0 {
		return api.Ratio{Neg: true, Num: api.Nat{0, 0}, Den: api.Nat{0}}
	}
	six := api.Nat{6}
	den := x.Den
	if len(den) == 0 {
		den = api.Nat{1}
	}
	return api.Ratio{Neg: x.Neg, Num: append(natural.Mul(x.Num, six), 0), Den: append(natural.Mul(den, six), 0, 0)}
}

func looseList(list []api.Ratio) []api.Ratio {
	var out []api.Ratio
	for _, x := range list {
		out = append(out, loose(x))
	}
	return out
}

// denotes reports whether x is the canonical form of a number.
func denotes(x api.Ratio, want *big.Rat) bool {
	normal := rational.Normalize(x)
	return x.Neg == normal.Neg && slices.Equal(x.Num, normal.Num) && slices.Equal(x.Den, normal.Den) && value(x).Cmp(want) == 0
}

func sameRatios(list []api.Ratio, want []*big.Rat) bool {
	return slices.EqualFunc(list, want, denotes)
}

// sumOf returns the sum of a list by math/big.
func sumOf(list []api.Ratio) *big.Rat {
	total := new(big.Rat)
	for _, x := range list {
		total.Add(total, value(x))
	}
	return total
}

// wantEstimate adds the quotients up from the last one on.
func wantEstimate(values, probabilities []api.Ratio) *big.Rat {
	total := new(big.Rat)
	for i := range slices.Backward(values) {
		total.Add(total, new(big.Rat).Quo(value(values[i]), value(probabilities[i])))
	}
	return total
}

func TestEstimate(t *testing.T) {
	for i, x := range []struct {
		values, probabilities []api.Ratio
		want                  *big.Rat
	}{
		{fractions(5, 1, 7, 1), fractions(1, 1, 1, 2), big.NewRat(19, 1)},
		{fractions(3, 1), fractions(1, 1), big.NewRat(3, 1)},
		{fractions(0, 1), fractions(1, 1000000), new(big.Rat)},
		{fractions(-1, 2), fractions(1, 3), big.NewRat(-3, 2)},
		{fractions(1, 2, -1, 3), fractions(1, 2, 1, 3), new(big.Rat)},
		{fractions(1, 6, 1, 10, 1, 15), fractions(2, 3, 3, 5, 1, 1), big.NewRat(29, 60)},
		{fractions(1, 1, 1, 1), fractions(1, 1<<62, 1, 1), big.NewRat(1<<62+1, 1)},
	} {
		for _, values := range [][]api.Ratio{x.values, looseList(x.values)} {
			for _, probabilities := range [][]api.Ratio{x.probabilities, looseList(x.probabilities)} {
				if got, e := Estimate(values, probabilities); e != api.OK || !denotes(got, x.want) {
					t.Error(i, got, e)
				}
			}
		}
	}
	random := rand.New(rand.NewPCG(1, 29))
	for size := 1; size <= api.MaxUnits; size += 1 + size/8 {
		var values, probabilities []api.Ratio
		for range size {
			den := 1 + random.Int64N(30)
			values = append(values, fraction(random.Int64N(2001)-1000, 1+random.Int64N(30)))
			probabilities = append(probabilities, fraction(1+random.Int64N(den), den))
		}
		if got, e := Estimate(values, probabilities); e != api.OK || !denotes(got, wantEstimate(values, probabilities)) {
			t.Error(size, got, e)
		}
	}
}

func TestEstimateAtTheLimits(t *testing.T) {
	ones := func(n int) []api.Ratio { return slices.Repeat(fractions(1, 1), n) }
	huge, _ := natural.Power(api.Nat{10}, 400)
	above, _ := natural.Power(api.Nat{10}, 399)
	belowOne := api.Ratio{Num: above, Den: huge}
	aboveOne := api.Ratio{Num: natural.Add(huge, api.Nat{1}), Den: huge}
	for i, x := range []struct {
		values, probabilities []api.Ratio
		e                     api.Errno
	}{
		{nil, nil, api.ErrSampleList}, {[]api.Ratio{}, nil, api.ErrSampleList}, {ones(1), nil, api.ErrSampleList}, {nil, ones(1), api.ErrSampleList},
		{ones(2), ones(1), api.ErrSampleList}, {ones(1), ones(2), api.ErrSampleList}, {ones(201), ones(201), api.ErrSampleList}, {ones(200), ones(200), api.OK},
		{ones(201), ones(200), api.ErrSampleList}, {ones(200), ones(201), api.ErrSampleList},
		// The lists come first.
		{nil, fractions(2, 1), api.ErrSampleList}, {ones(1), fractions(2, 1, 2, 1), api.ErrSampleList}, {ones(201), slices.Repeat(fractions(0, 1), 201), api.ErrSampleList},
		{ones(1), fractions(0, 1), api.ErrSampleProbability}, {ones(1), []api.Ratio{{Neg: true, Den: api.Nat{3}}}, api.ErrSampleProbability}, {ones(1), fractions(-1, 2), api.ErrSampleProbability},
		{ones(1), fractions(-1, 1), api.ErrSampleProbability}, {ones(1), fractions(101, 100), api.ErrSampleProbability}, {ones(1), fractions(2, 1), api.ErrSampleProbability},
		{ones(1), []api.Ratio{aboveOne}, api.ErrSampleProbability}, {ones(1), []api.Ratio{belowOne}, api.OK}, {ones(1), []api.Ratio{{Num: huge, Den: huge}}, api.OK},
		{ones(1), []api.Ratio{{Num: api.Nat{1}, Den: api.Nat{0, 0}}}, api.OK}, {ones(1), []api.Ratio{{Num: api.Nat{2}, Den: api.Nat{0}}}, api.ErrSampleProbability},
		{ones(200), append(ones(199), fraction(0, 1)), api.ErrSampleProbability}, {ones(200), append(ones(199), fraction(3, 2)), api.ErrSampleProbability},
		{ones(3), fractions(1, 1, 5, 4, 1, 1), api.ErrSampleProbability}, {fractions(0, 1), fractions(0, 1), api.ErrSampleProbability},
	} {
		got, e := Estimate(x.values, x.probabilities)
		if e != x.e {
			t.Error(i, e)
		}
		if e == api.OK && !denotes(got, wantEstimate(x.values, x.probabilities)) || e != api.OK && (got.Neg || len(got.Num)+len(got.Den) > 0) {
			t.Error(i, got)
		}
	}
}
