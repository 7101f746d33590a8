package radical

import (
	"math"
	"testing"

	"priceoffice/api"
	"priceoffice/natural"
	"priceoffice/rational"
)

// checkRound checks that the rounded number is a multiple of 10^-digits and that a is not below the number that is half
// a unit less, and below that which is half a unit more.
func checkRound(t *testing.T, a api.Radical, digits int) {
	t.Helper()
	got, e := Round(a, digits)
	unit, _ := rational.Power(fraction(10, 1), -min(max(digits, 0), 12))
	count, _ := rational.Quo(got, unit)
	half := rational.Mul(unit, fraction(1, 2))
	low, high := rational.Sub(got, half), rational.Add(got, half)
	if e != api.OK || len(count.Den) > 0 || got.Neg || !agree(got, rational.Normalize(got)) {
		t.Error(a, digits, got, e)
	}
	if rational.Sign(low) > 0 && compareToRoot(t, low, a) > 0 || compareToRoot(t, high, a) <= 0 {
		t.Error(a, digits, got)
	}
}

// compareToRoot compares a positive number to a root by its power.
func compareToRoot(t *testing.T, x api.Ratio, a api.Radical) int {
	t.Helper()
	power, e := rational.Power(x, a.Degree)
	if e != api.OK {
		t.Error(x, a.Degree, e)
	}
	return rational.Compare(power, a.Value)
}

func TestRound(t *testing.T) {
	for _, n := range samples() {
		for _, digits := range []int{math.MinInt, -1, 0, 1, 2, 3, 7, 11, 12, 13, math.MaxInt} {
			checkRound(t, n.given(), digits)
			checkRound(t, looseRoot(n.given()), digits)
		}
	}
	for _, degree := range []int{1, 2, 3, 10, 97, 512, 1023, 1024} {
		for _, value := range []api.Ratio{fraction(1, 1), fraction(1, 1000000007), fraction(22, 7), fraction(999999999999, 1000), twoTo(60)} {
			for digits := range 13 {
				checkRound(t, api.Radical{Value: value, Degree: degree}, digits)
			}
		}
	}
	for _, x := range []struct {
		a      api.Radical
		digits int
		want   api.Ratio
	}{
		{root(2, 1, 2), 3, fraction(1414, 1000)}, {root(25, 4, 2), 0, fraction(3, 1)}, {root(2, 1, 2), 0, fraction(1, 1)}, {root(3, 1, 2), 0, fraction(2, 1)},
		{root(3, 1, 2), -4, fraction(2, 1)}, {root(1, 4, 1), 1, fraction(3, 10)}, {root(1, 100, 2), 0, api.Ratio{}}, {root(27, 8, 3), 9, fraction(3, 2)},
		{root(2, 1, 2), 12, fraction(1414213562373, 1000000000000)}, {root(2, 1, 2), 50, fraction(1414213562373, 1000000000000)},
		{root(1, 3, 1), 2, fraction(33, 100)}, {root(2, 1, 1024), 4, fraction(10007, 10000)}, {root(1, 4, 2), 0, fraction(1, 1)},
		{root(1, 64, 2), 2, fraction(13, 100)}, {root(243, 32, 5), 0, fraction(2, 1)}, {root(1, 1000, 1), 2, api.Ratio{}},
	} {
		if got, e := Round(x.a, x.digits); e != api.OK || !agree(got, x.want) {
			t.Error(x.a, x.digits, got, e)
		}
	}
}

// TestRoundNearHalves has numbers that are equally near to two multiples, or hardly farther from one of them.
func TestRoundNearHalves(t *testing.T) {
	unit, _ := rational.Power(fraction(10, 1), -60)
	for _, degree := range []int{1, 2, 3, 7, 12} {
		for _, digits := range []int{0, 1, 4, 12} {
			tens, _ := rational.Power(fraction(10, 1), digits)
			for count := int64(0); count < 5; count++ {
				lower, _ := rational.Quo(fraction(count, 1), tens)
				upper, _ := rational.Quo(fraction(count+1, 1), tens)
				middle := rational.Mul(rational.Add(lower, upper), fraction(1, 2))
				half, _ := rational.Power(middle, degree)
				less, _ := rational.Power(rational.Sub(middle, unit), degree)
				more, _ := rational.Power(rational.Add(middle, unit), degree)
				for _, x := range []struct{ value, want api.Ratio }{{half, upper}, {less, lower}, {more, upper}} {
					got, e := Round(api.Radical{Value: x.value, Degree: degree}, digits)
					if e != api.OK || !agree(got, x.want) {
						t.Error(degree, digits, count, got, e)
					}
				}
			}
		}
	}
}

func TestRoundOfLongNumbers(t *testing.T) {
	// The square of 10^9000 + 1/2 is just between two integers' squares.
	tens, e := rational.Power(fraction(10, 1), 9000)
	if e != api.OK {
		t.Fatal(e)
	}
	square := func(x api.Ratio) api.Radical { return api.Radical{Value: rational.Mul(x, x), Degree: 2} }
	next := rational.Add(tens, fraction(1, 1))
	middle := square(rational.Add(tens, fraction(1, 2)))
	below := api.Radical{Value: rational.Sub(middle.Value, fraction(1, 4)), Degree: 2}
	for _, x := range []struct {
		a    api.Radical
		want api.Ratio
	}{{square(tens), tens}, {square(next), next}, {middle, next}, {below, tens}} {
		if got, e := Round(x.a, 0); e != api.OK || !agree(got, x.want) {
			t.Error(natural.Bits(x.a.Value.Num), natural.Bits(got.Num), e)
		}
	}
	checkRound(t, api.Radical{Value: rational.Add(twoTo(60000), fraction(1, 1)), Degree: 2}, 12)
	checkRound(t, api.Radical{Value: rational.Add(twoTo(60000), fraction(1, 1)), Degree: api.MaxDegree}, 12)
}

func TestRoundIsMonotone(t *testing.T) {
	for _, n := range samples() {
		for _, m := range samples() {
			order, e := Compare(n.given(), m.given())
			for digits := range 4 {
				x, f := Round(n.given(), digits)
				y, g := Round(m.given(), digits)
				if e != api.OK || f != api.OK || g != api.OK || order*rational.Compare(x, y) < 0 || order == 0 && !agree(x, y) {
					t.Error(n, m, digits, x, y)
				}
			}
		}
	}
}
