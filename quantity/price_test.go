package quantity

import (
	"math/big"
	"math/rand/v2"
	"slices"
	"testing"

	"priceoffice/api"
	"priceoffice/natural"
	"priceoffice/rational"
)

func fraction(num, den int64) api.Ratio {
	x, _ := rational.Fraction(num, den)
	return x
}

// value returns x as a number of math/big, which the tests compare the package with.
func value(x api.Ratio) *big.Rat {
	integer := func(n api.Nat) *big.Int {
		z := new(big.Int)
		for _, limb := range slices.Backward(n) {
			z.Or(z.Lsh(z, 32), big.NewInt(int64(limb)))
		}
		return z
	}
	num, den := integer(x.Num), integer(x.Den)
	if den.Sign() == 0 {
		den.SetInt64(1)
	}
	if x.Neg {
		num.Neg(num)
	}
	return new(big.Rat).SetFrac(num, den)
}

// expect checks that got is canonical and denotes want.
func expect(t *testing.T, got api.Ratio, e api.Errno, want *big.Rat, call ...any) {
	t.Helper()
	normal := rational.Normalize(got)
	canonical := got.Neg == normal.Neg && slices.Equal(got.Num, normal.Num) && slices.Equal(got.Den, normal.Den)
	if e != api.OK || !canonical || value(got).Cmp(want) != 0 {
		t.Error("got", got, e, "want", want, call)
	}
}

// expectNone checks what stands beside an error.
func expectNone(t *testing.T, got api.Ratio, e, want api.Errno, call ...any) {
	t.Helper()
	if e != want || got.Neg || len(got.Num)+len(got.Den) > 0 {
		t.Error("got", got, e, "want", want, call)
	}
}

// prices are of all signs, some of them not canonical, and some of many limbs.
func prices() []api.Ratio {
	huge, _ := natural.Power(api.Nat{10}, 300)
	return []api.Ratio{
		{}, {Neg: true, Num: api.Nat{0, 0}, Den: api.Nat{0}}, fraction(1, 1), fraction(3, 1), fraction(-7, 2), fraction(199, 100), fraction(1, 1000000),
		{Num: api.Nat{6, 0}, Den: api.Nat{4, 0, 0}}, {Neg: true, Num: api.Nat{5}, Den: api.Nat{0, 0}}, {Num: huge, Den: api.Nat{7}}, {Neg: true, Num: api.Nat{1}, Den: huge},
	}
}

// someSamples returns a few valid quantities of each dimension.
func someSamples() []api.Quantity {
	random := rand.New(rand.NewPCG(84, 23))
	var list []api.Quantity
	for dimension := api.Mass; dimension <= api.Pieces; dimension++ {
		list = append(list, of(dimension, 1, 1), of(dimension, 1, most), of(dimension, 100, most/100), of(dimension, 6, 330))
		all := samples(dimension)
		for range 12 {
			list = append(list, all[random.IntN(len(all))])
		}
	}
	return list
}

// total returns the base units of a valid quantity.
func total(q api.Quantity) *big.Rat { return big.NewRat(int64(q.Count)*q.Amount, 1) }

func standardSize(dimension int) *big.Rat {
	name := map[int]string{api.Mass: "kg", api.Volume: "l", api.Length: "m", api.Pieces: "pc"}[dimension]
	return big.NewRat(meanings()[name].size, 1)
}

func product(x, y *big.Rat) *big.Rat { return new(big.Rat).Mul(x, y) }

func quotient(x, y *big.Rat) *big.Rat { return new(big.Rat).Quo(x, y) }

func TestPricesOfTheDocument(t *testing.T) {
	half, pack := of(api.Mass, 1, 500000), of(api.Mass, 2, 300000)
	got, e := Factor(half, pack)
	expect(t, got, e, big.NewRat(6, 5), "Factor")
	got, e = Factor(pack, half)
	expect(t, got, e, big.NewRat(5, 6), "Factor")
	got, e = Scale(fraction(100, 1), half, pack)
	expect(t, got, e, big.NewRat(120, 1), "Scale")
	for _, x := range []struct {
		price api.Ratio
		q     api.Quantity
		want  *big.Rat
	}{
		{fraction(3, 1), of(api.Volume, 6, 330), big.NewRat(50, 33)}, {fraction(1, 2), half, big.NewRat(1, 1)}, {fraction(1, 1), of(api.Mass, 1, 1), big.NewRat(1000000, 1)}, {fraction(1, 1), of(api.Volume, 1, 1), big.NewRat(1000, 1)},
		{fraction(-1, 1), of(api.Length, 1, 1), big.NewRat(-1000, 1)}, {fraction(5, 1), of(api.Length, 1, 2500), big.NewRat(2, 1)}, {fraction(6, 1), of(api.Pieces, 3, 4), big.NewRat(1, 2)}, {fraction(0, 1), pack, new(big.Rat)},
	} {
		got, e := UnitPrice(x.price, x.q)
		expect(t, got, e, x.want, x)
	}
}

func TestFactorAndScale(t *testing.T) {
	list := someSamples()
	for _, a := range list {
		for _, b := range list {
			factor, e := Factor(a, b)
			if a.Dimension != b.Dimension {
				expectNone(t, factor, e, api.ErrQuantityUnlike, a, b)
				continue
			}
			want := quotient(total(b), total(a))
			expect(t, factor, e, want, "Factor", a, b)
			for _, price := range prices() {
				got, e := Scale(price, a, b)
				expect(t, got, e, product(value(price), want), "Scale", price, a, b)
			}
		}
	}
}

func TestUnitPrice(t *testing.T) {
	for _, q := range someSamples() {
		for _, price := range prices() {
			got, e := UnitPrice(price, q)
			expect(t, got, e, quotient(product(value(price), standardSize(q.Dimension)), total(q)), price, q)
		}
	}
}

func TestErrorsOfPrices(t *testing.T) {
	list := []api.Quantity{
		{}, of(5, 1, 1), of(-1, 0, 0), of(api.Mass, 0, 1), of(api.Volume, 101, 0), of(api.Mass, 1, 0), of(api.Length, 2, most), of(api.Pieces, 1, -5),
		of(api.Mass, 1, 1), of(api.Mass, 2, 300000), of(api.Volume, 6, 330), of(api.Length, 1, most), of(api.Pieces, 12, 1),
	}
	for _, a := range list {
		for _, price := range prices() {
			if got, e := UnitPrice(price, a); verdict(a) != api.OK {
				expectNone(t, got, e, verdict(a), "UnitPrice", price, a)
			}
		}
		for _, b := range list {
			want := verdict(a)
			if want == api.OK {
				want = verdict(b)
			}
			if want == api.OK && a.Dimension != b.Dimension {
				want = api.ErrQuantityUnlike
			}
			factor, e := Factor(a, b)
			if want == api.OK {
				expect(t, factor, e, quotient(total(b), total(a)), "Factor", a, b)
				continue
			}
			expectNone(t, factor, e, want, "Factor", a, b)
			for _, price := range prices() {
				got, e := Scale(price, a, b)
				expectNone(t, got, e, want, "Scale", price, a, b)
			}
		}
	}
}

// TestUnitPriceOfAScaledPrice has a consequence of the chapter: UnitPrice(Scale(p, from, to), to) is UnitPrice(p, from).
func TestUnitPriceOfAScaledPrice(t *testing.T) {
	list := someSamples()
	for _, from := range list {
		for _, to := range list {
			for _, price := range prices() {
				if scaled, e := Scale(price, from, to); e == api.OK {
					got, e := UnitPrice(scaled, to)
					want, _ := UnitPrice(price, from)
					expect(t, got, e, value(want), price, from, to)
				}
			}
		}
	}
}

// TestFactorsMultiply has the other one: Factor(a, b) times Factor(b, c) is Factor(a, c).
func TestFactorsMultiply(t *testing.T) {
	list := someSamples()
	for _, a := range list {
		for _, b := range list {
			for _, c := range list {
				if a.Dimension == b.Dimension && b.Dimension == c.Dimension {
					first, _ := Factor(a, b)
					second, _ := Factor(b, c)
					got, e := Factor(a, c)
					expect(t, got, e, product(value(first), value(second)), a, b, c)
				}
			}
		}
	}
}

// lent returns x in memory of its own, with spare capacity that must be neither read nor written.
func lent(x api.Ratio) api.Ratio {
	spare := func(n api.Nat) api.Nat { return append(slices.Clone(n), 11, 12, 13, 14, 15, 16)[:len(n)] }
	return api.Ratio{Neg: x.Neg, Num: spare(x.Num), Den: spare(x.Den)}
}

// overwrite changes all the memory of a result; its two parts must not share any.
func overwrite(t *testing.T, x api.Ratio) {
	t.Helper()
	num, den := x.Num[:cap(x.Num)], x.Den[:cap(x.Den)]
	before := slices.Clone(den)
	for i := range num {
		num[i] = ^num[i]
	}
	if !slices.Equal(den, before) {
		t.Error("a result shares memory within itself")
	}
	for i := range den {
		den[i] = ^den[i]
	}
}

func TestPricesAreNeitherChangedNorShared(t *testing.T) {
	same := func(a, b api.Nat) bool { return slices.Equal(a[:len(a)+6], b[:len(b)+6]) }
	for _, price := range prices() {
		for _, q := range []api.Quantity{of(api.Mass, 1, 1000000), of(api.Volume, 6, 330), of(api.Pieces, 1, 1), {}} {
			given, kept := lent(price), lent(price)
			for range 2 {
				unit, _ := UnitPrice(given, q)
				overwrite(t, unit)
				scaled, _ := Scale(given, q, q)
				overwrite(t, scaled)
				factor, _ := Factor(q, q)
				overwrite(t, factor)
			}
			if given.Neg != kept.Neg || !same(given.Num, kept.Num) || !same(given.Den, kept.Den) {
				t.Error("changed", price, q)
			}
		}
	}
}
