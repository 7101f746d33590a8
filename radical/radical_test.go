package radical

import (
	"math"
	"slices"
	"testing"

	"priceoffice/api"
	"priceoffice/natural"
	"priceoffice/rational"
)

// primes are those of which the tests make their numbers; the last one has two limbs.
var primes = [...]int64{2, 3, 5, 7, 4294967311}

// number is a root of a product of powers of the primes. It is what the tests compare the package with: products and
// quotients only add and subtract its exponents, and the least degree follows from a greatest common divisor.
type number struct {
	exponents [len(primes)]int
	degree    int
}

// value returns the product of the powers, in lowest terms.
func (n number) value() api.Ratio {
	product := rational.FromInt(1)
	for i, k := range n.exponents {
		power, _ := rational.Power(rational.FromInt(primes[i]), k)
		product = rational.Mul(product, power)
	}
	return product
}

// given returns n with its degree, so that it need not be canonical.
func (n number) given() api.Radical {
	return api.Radical{Value: n.value(), Degree: n.degree}
}

// least returns n in canonical form.
func (n number) least() api.Radical {
	shared := n.degree
	for _, k := range n.exponents {
		shared = euclid(shared, max(k, -k))
	}
	for i := range n.exponents {
		n.exponents[i] /= shared
	}
	n.degree /= shared
	return n.given()
}

func euclid(a, b int) int {
	if b == 0 {
		return a
	}
	return euclid(b, a%b)
}

// times returns n * m^k.
func (n number) times(m number, k int) number {
	for i := range n.exponents {
		n.exponents[i] = n.exponents[i]*m.degree + k*m.exponents[i]*n.degree
	}
	n.degree *= m.degree
	return n
}

// logarithm returns about the natural logarithm of n.
func (n number) logarithm() float64 {
	sum := 0.0
	for i, k := range n.exponents {
		sum += float64(k) * math.Log(float64(primes[i]))
	}
	return sum / float64(n.degree)
}

// samples returns numbers less than, equal to and greater than 1, most of them with a degree that is not the least one.
func samples() []number {
	return []number{
		{[...]int{0, 0, 0, 0, 0}, 1}, {[...]int{0, 0, 0, 0, 0}, 30}, {[...]int{1, 0, 0, 0, 0}, 1}, {[...]int{2, 0, 0, 0, 0}, 2},
		{[...]int{1, 0, 0, 0, 0}, 2}, {[...]int{-1, 0, 0, 0, 0}, 2}, {[...]int{3, 0, 0, 0, 0}, 2}, {[...]int{3, -3, 0, 0, 0}, 6},
		{[...]int{-3, 0, 0, 0, 0}, 6}, {[...]int{0, 2, 0, 0, 0}, 3}, {[...]int{4, 0, -6, 0, 0}, 4}, {[...]int{12, 24, -36, 0, 0}, 24},
		{[...]int{0, 0, 0, 0, 1}, 2}, {[...]int{0, 0, 0, 0, 2}, 2}, {[...]int{-1, 0, 0, 0, 5}, 5}, {[...]int{10, 0, 0, -5, -5}, 10},
		{[...]int{1, 1, 1, 1, 1}, 4}, {[...]int{-2, 4, -6, 8, 0}, 8}, {[...]int{6, 6, 0, -9, 0}, 12}, {[...]int{0, 7, 0, -7, 0}, 7},
		{[...]int{1, -1, 0, 0, 0}, 13}, {[...]int{0, 0, 1, 0, -1}, 1}, {[...]int{0, -1, 2, 0, -3}, 3}, {[...]int{64, 0, 0, 0, 0}, 16},
	}
}

// whole returns n / 1, with a Den that is not canonical.
func whole(n int64) api.Ratio { return loose(rational.FromInt(n)) }

func fraction(num, den int64) api.Ratio {
	x, _ := rational.Fraction(num, den)
	return x
}

func root(num, den int64, degree int) api.Radical {
	return api.Radical{Value: fraction(num, den), Degree: degree}
}

// loose returns a canonical number not in lowest terms and with high zero limbs.
func loose(x api.Ratio) api.Ratio {
	six := api.Nat{6}
	return api.Ratio{Neg: x.Neg, Num: padded(natural.Mul(x.Num, six)), Den: padded(natural.Mul(denominator(x), six))}
}

func padded(n api.Nat) api.Nat { return append(n, 0, 0) }

func looseRoot(a api.Radical) api.Radical {
	return api.Radical{Value: loose(a.Value), Degree: a.Degree}
}

func agree(x, y api.Ratio) bool {
	return x.Neg == y.Neg && slices.Equal(x.Num, y.Num) && slices.Equal(x.Den, y.Den)
}

// expect checks that there is no error and that got is want, limb by limb.
func expect(t *testing.T, got api.Radical, e api.Errno, want api.Radical, call ...any) {
	t.Helper()
	if e != api.OK || got.Degree != want.Degree || !agree(got.Value, want.Value) {
		t.Error("got", got, e, "want", want, call)
	}
}

// expectNone checks an error and what stands beside it.
func expectNone(t *testing.T, got api.Radical, e, want api.Errno, call ...any) {
	t.Helper()
	if e != want || got.Degree != 0 || !agree(got.Value, api.Ratio{}) {
		t.Error("got", got, e, "want", want, call)
	}
}

func TestMake(t *testing.T) {
	for _, n := range samples() {
		want := n.least()
		for _, value := range []api.Ratio{n.value(), loose(n.value())} {
			got, e := Make(value, n.degree)
			expect(t, got, e, want, n)
		}
		got, e := Make(want.Value, want.Degree)
		expect(t, got, e, want, n, "again")
	}
	for _, x := range []struct {
		value  api.Ratio
		degree int
		want   api.Radical
	}{
		{whole(4), 2, root(2, 1, 1)}, {whole(8), 2, root(8, 1, 2)}, {fraction(8, 27), 6, root(2, 3, 2)}, {whole(1), api.MaxDegree, root(1, 1, 1)},
		{fraction(4, 3), 2, root(4, 3, 2)}, {fraction(3, 4), 2, root(3, 4, 2)}, {fraction(18, 8), 2, root(3, 2, 1)}, {whole(7), 1, root(7, 1, 1)},
		{api.Ratio{Num: api.Nat{9, 0}, Den: api.Nat{0, 0}}, 2, root(3, 1, 1)}, {fraction(1, 64), 12, root(1, 2, 2)},
	} {
		got, e := Make(x.value, x.degree)
		expect(t, got, e, x.want, x)
	}
}

func TestMakeOfEveryDegree(t *testing.T) {
	for degree := 1; degree <= api.MaxDegree; degree++ {
		for _, k := range []int{1, 2, 6, 16, 30, 49, 121, 210, 256} {
			n := number{[...]int{k, -k, 0, 0, 0}, degree}
			got, e := Make(n.value(), degree)
			expect(t, got, e, n.least(), n)
		}
	}
	for _, k := range []int{-1024, -997, -512, 512, 960, 997, 1021, 1024} {
		for _, degree := range []int{1024, 1021, 997, 960, 512, 3} {
			n := number{[...]int{k, 0, 2 * k, 0, -k}, degree}
			got, e := Make(n.value(), degree)
			expect(t, got, e, n.least(), n)
		}
	}
}

func TestRational(t *testing.T) {
	rationals := 0
	for _, n := range samples() {
		want := n.least()
		for _, a := range []api.Radical{n.given(), looseRoot(n.given()), want} {
			got, ok := Rational(a)
			switch {
			case ok != (want.Degree == 1):
				t.Error(n, got, ok)
			case ok && !agree(got, want.Value) || !ok && !agree(got, api.Ratio{}):
				t.Error(n, got, ok)
			case ok:
				rationals++
			}
		}
	}
	if rationals == 0 {
		t.Error("no rational number among the samples")
	}
	for _, a := range []api.Radical{
		{}, root(0, 1, 1), root(-4, 1, 2), root(-1, 1, 1), root(4, 1, 0), root(4, 1, -2), root(1, 1, api.MaxDegree+1), root(1, 1, math.MaxInt),
		root(2, 1, 2), root(8, 27, 2), root(4, 3, 2), root(3, 4, 2), {Value: twoTo(65535), Degree: 1},
	} {
		if got, ok := Rational(a); ok || !agree(got, api.Ratio{}) {
			t.Error(a.Degree, got, ok)
		}
	}
}

func TestMulAndQuo(t *testing.T) {
	for _, n := range samples() {
		for _, m := range samples() {
			for _, a := range []api.Radical{n.given(), looseRoot(n.given())} {
				got, e := Mul(a, looseRoot(m.given()))
				expect(t, got, e, n.times(m, 1).least(), "mul", n, m)
				got, e = Quo(a, looseRoot(m.given()))
				expect(t, got, e, n.times(m, -1).least(), "quo", n, m)
			}
		}
	}
	for _, x := range []struct{ a, b, product, quotient api.Radical }{
		{root(2, 1, 2), root(2, 1, 3), root(32, 1, 6), root(2, 1, 6)}, {root(8, 1, 2), root(2, 1, 2), root(4, 1, 1), root(2, 1, 1)},
		{root(3, 2, 6), root(2, 3, 6), root(1, 1, 1), root(3, 2, 3)}, {root(2, 1, 32), root(1, 1, 31), root(2, 1, 32), root(2, 1, 32)},
		{root(3, 1, api.MaxDegree), root(3, 1, api.MaxDegree), root(3, 1, 512), root(1, 1, 1)},
	} {
		got, e := Mul(x.a, x.b)
		expect(t, got, e, x.product, x)
		got, e = Quo(x.a, x.b)
		expect(t, got, e, x.quotient, x)
	}
}

func TestPower(t *testing.T) {
	one := number{degree: 1}
	for _, n := range samples() {
		for k := -13; k <= 13; k++ {
			for _, a := range []api.Radical{n.given(), looseRoot(n.given())} {
				got, e := Power(a, k)
				expect(t, got, e, one.times(n, k).least(), n, k)
			}
		}
	}
	got, e := Power(root(2, 1, 2), -2)
	expect(t, got, e, root(1, 2, 1))
	got, e = Power(root(2, 3, 6), 4)
	expect(t, got, e, root(4, 9, 3))
	got, e = Power(root(7, 1, 5), 0)
	expect(t, got, e, root(1, 1, 1))
}

func TestRoot(t *testing.T) {
	for _, n := range samples() {
		for k := 1; k <= 30; k++ {
			m := number{n.exponents, n.degree * k}
			for _, a := range []api.Radical{n.given(), looseRoot(n.given())} {
				got, e := Root(a, k)
				expect(t, got, e, m.least(), n, k)
			}
		}
	}
	got, e := Root(root(4, 1, 1), 4)
	expect(t, got, e, root(2, 1, 2))
	got, e = Root(root(2, 1, 32), 32)
	expect(t, got, e, root(2, 1, 1024))
}

func TestCompare(t *testing.T) {
	for _, n := range samples() {
		for _, m := range samples() {
			want := 0
			switch difference := n.logarithm() - m.logarithm(); {
			case difference < -1e-6:
				want = -1
			case difference > 1e-6:
				want = 1
			}
			got, e := Compare(n.given(), looseRoot(m.given()))
			equal := n.least().Degree == m.least().Degree && agree(n.least().Value, m.least().Value)
			if e != api.OK || got != want || equal != (want == 0) {
				t.Error(n, m, got, e)
			}
		}
	}
	if got, e := Compare(root(2, 1, 2), root(3, 1, 3)); e != api.OK || got != -1 {
		t.Error(got, e)
	}
	// Both numbers are near 1, and their logarithms differ by about 1e-36.
	near := rational.Add(twoTo(60), fraction(1, 1))
	above := api.Radical{Value: rational.Mul(near, fraction(1, 1<<60)), Degree: 1}
	square := rational.Mul(above.Value, above.Value)
	below := api.Radical{Value: rational.Sub(square, fraction(1, 1<<62)), Degree: 2}
	for _, x := range []struct {
		a, b api.Radical
		want int
	}{{above, below, 1}, {below, above, -1}, {above, api.Radical{Value: square, Degree: 2}, 0}} {
		if got, e := Compare(x.a, x.b); e != api.OK || got != x.want {
			t.Error(got, e, x.want)
		}
	}
}
