package rational

import (
	"math"
	"math/big"
	"slices"
	"strings"
	"testing"

	"priceoffice/api"
	"priceoffice/natural"
)

const top = math.MaxUint32

func nat(limbs ...uint32) api.Nat { return limbs }

// raw returns num / den as it is given, so that it need not be canonical.
func raw(num int64, den ...uint32) api.Ratio {
	size := new(big.Int).Abs(big.NewInt(num)).Uint64()
	return api.Ratio{Neg: num < 0, Num: nat(uint32(size), uint32(size>>32), 0), Den: den}
}

// integer returns n as a number of math/big, which the tests compare the package with.
func integer(n api.Nat) *big.Int {
	z := new(big.Int)
	for _, limb := range slices.Backward(n) {
		z.Or(z.Lsh(z, 32), big.NewInt(int64(limb)))
	}
	return z
}

// reference returns x as a number of math/big.
func reference(x api.Ratio) *big.Rat {
	num, den := integer(x.Num), integer(x.Den)
	if den.Sign() == 0 {
		den.SetInt64(1)
	}
	if x.Neg {
		num.Neg(num)
	}
	return new(big.Rat).SetFrac(num, den)
}

// expect checks that got is canonical and denotes want.
func expect(t *testing.T, got api.Ratio, want *big.Rat, call ...any) {
	t.Helper()
	den := want.Denom()
	if want.IsInt() {
		den = new(big.Int)
	}
	trimmed := slices.Equal(got.Num, natural.Trim(got.Num)) && slices.Equal(got.Den, natural.Trim(got.Den))
	size := new(big.Int).Abs(want.Num())
	if !trimmed || got.Neg != (want.Sign() < 0) || integer(got.Num).Cmp(size) != 0 || integer(got.Den).Cmp(den) != 0 {
		t.Error("got", got, "want", want, call)
	}
}

// expectNone checks what stands beside an error.
func expectNone(t *testing.T, got api.Ratio, e, want api.Errno, call ...any) {
	t.Helper()
	if e != want || got.Neg || len(got.Num)+len(got.Den) > 0 {
		t.Error("got", got, e, "want", want, call)
	}
}

// numerators and denominators are small, near a limb's end, or have high zero limbs. A denominator of value 0 stands
// for 1.
func numerators() []api.Nat {
	return []api.Nat{nil, nat(0, 0), nat(1), nat(2, 0), nat(6), nat(35), nat(top), nat(0, 1), nat(top, top, 0), nat(12, 34, 56)}
}

func denominators() []api.Nat {
	return []api.Nat{nil, nat(0), nat(0, 0, 0), nat(1), nat(1, 0), nat(4), nat(6, 0), nat(77), nat(top), nat(0, 1), nat(top, top), nat(36, 102, 168)}
}

// samples returns numbers of both signs, of value 0 too, most of them not canonical.
func samples() []api.Ratio {
	var list []api.Ratio
	for _, num := range numerators() {
		for _, den := range denominators() {
			list = append(list, api.Ratio{Num: num, Den: den}, api.Ratio{Neg: true, Num: num, Den: den})
		}
	}
	return list
}

func TestNew(t *testing.T) {
	for _, num := range numerators() {
		for _, den := range denominators() {
			got, e := New(num, den)
			if integer(den).Sign() == 0 {
				expectNone(t, got, e, api.ErrRationalZero, num, den)
				continue
			}
			if e != api.OK {
				t.Error(num, den, e)
			}
			expect(t, got, reference(api.Ratio{Num: num, Den: den}), num, den)
		}
	}
	if got, e := New(nat(6), nat(4)); e != api.OK || got.Neg || !slices.Equal(got.Num, nat(3)) || !slices.Equal(got.Den, nat(2)) {
		t.Error(got, e)
	}
	if got, e := New(nat(6), nat(3, 0)); e != api.OK || got.Neg || !slices.Equal(got.Num, nat(2)) || len(got.Den) != 0 {
		t.Error(got, e)
	}
}

func TestFromIntAndFraction(t *testing.T) {
	list := []int64{0, 1, -1, 2, -2, 4, -6, 7, 35, -35, top, top + 1, -top - 1, math.MaxInt64, math.MinInt64, -math.MaxInt64, math.MinInt64 / 2}
	for _, num := range list {
		expect(t, FromInt(num), new(big.Rat).SetInt64(num), num)
		for _, den := range list {
			got, e := Fraction(num, den)
			if den == 0 {
				expectNone(t, got, e, api.ErrRationalZero, num, den)
				continue
			}
			if e != api.OK {
				t.Error(num, den, e)
			}
			expect(t, got, big.NewRat(num, den), num, den)
		}
	}
	if got, e := Fraction(4, -2); e != api.OK || !got.Neg || !slices.Equal(got.Num, nat(2)) || len(got.Den) != 0 {
		t.Error(got, e)
	}
}

func TestNormalizeNegateAndSign(t *testing.T) {
	for _, x := range samples() {
		want := reference(x)
		expect(t, Normalize(x), want, "normalize", x)
		expect(t, Normalize(Normalize(x)), want, "normalize twice", x)
		expect(t, Negate(x), new(big.Rat).Neg(want), "negate", x)
		expect(t, Negate(Negate(x)), want, "negate twice", x)
		if got := Sign(x); got != want.Sign() {
			t.Error("sign", x, got)
		}
	}
	for _, zero := range []api.Ratio{{}, {Neg: true}, {Neg: true, Num: nat(0, 0), Den: nat(7)}} {
		if got := Normalize(zero); got.Neg || len(got.Num)+len(got.Den) != 0 || Sign(zero) != 0 {
			t.Error(zero, got)
		}
		if got := Negate(zero); got.Neg || len(got.Num)+len(got.Den) != 0 {
			t.Error(zero, got)
		}
	}
}

func TestCompareAddSubMulAndQuo(t *testing.T) {
	list := samples()
	for _, x := range list {
		for _, y := range list {
			a, b := reference(x), reference(y)
			if got := Compare(x, y); got != a.Cmp(b) {
				t.Error("compare", x, y, got)
			}
			expect(t, Add(x, y), new(big.Rat).Add(a, b), "add", x, y)
			expect(t, Sub(x, y), new(big.Rat).Sub(a, b), "sub", x, y)
			expect(t, Mul(x, y), new(big.Rat).Mul(a, b), "mul", x, y)
			got, e := Quo(x, y)
			if b.Sign() == 0 {
				expectNone(t, got, e, api.ErrRationalZero, "quo", x, y)
				continue
			}
			if e != api.OK {
				t.Error("quo", x, y, e)
			}
			expect(t, got, new(big.Rat).Quo(a, b), "quo", x, y)
		}
	}
	expect(t, Add(raw(1, 2), raw(1, 3)), big.NewRat(5, 6))
	if got, e := Quo(raw(1), raw(0)); e != api.ErrRationalZero || Sign(got) != 0 {
		t.Error(got, e)
	}
}

func TestSum(t *testing.T) {
	list := samples()
	total := new(big.Rat)
	for i, x := range list {
		expect(t, Sum(list[:i]), total, "the first", i)
		total.Add(total, reference(x))
	}
	expect(t, Sum(nil), new(big.Rat), "none")
	expect(t, Sum([]api.Ratio{}), new(big.Rat), "none")
	expect(t, Sum([]api.Ratio{{Neg: true, Num: nat(6, 0), Den: nat(4)}}), big.NewRat(-3, 2), "one")
	expect(t, Sum([]api.Ratio{raw(1, 6), raw(1, 6), raw(1, 6), raw(-1, 4)}), big.NewRat(1, 4), "four")
	expect(t, Sum([]api.Ratio{raw(5, 3), raw(-10, 6)}), new(big.Rat), "opposites")
	var halves []api.Ratio
	want := new(big.Rat)
	for i := range int64(300) {
		halves = append(halves, raw(i-100, uint32(i+1)))
		want.Add(want, big.NewRat(i-100, i+1))
	}
	expect(t, Sum(halves), want, "many")
	slices.Reverse(halves)
	expect(t, Sum(halves), want, "many, from the last")
}

// powerOf returns x^k, which is defined.
func powerOf(x *big.Rat, k int) *big.Rat {
	result := big.NewRat(1, 1)
	for range max(k, -k) {
		result.Mul(result, x)
	}
	if k < 0 {
		result.Inv(result)
	}
	return result
}

func TestPower(t *testing.T) {
	for _, x := range samples() {
		for k := -7; k <= 7; k++ {
			got, e := Power(x, k)
			if Sign(x) == 0 && k < 0 {
				expectNone(t, got, e, api.ErrRationalZero, x, k)
				continue
			}
			if e != api.OK {
				t.Error(x, k, e)
			}
			expect(t, got, powerOf(reference(x), k), x, k)
		}
	}
	got, e := Power(raw(2, 3), -2)
	if e != api.OK {
		t.Error(e)
	}
	expect(t, got, big.NewRat(9, 4))
}

// TestPowerOfUnits has exponents without limit: 0, 1 and -1 have powers for all of them, as far as they are defined.
func TestPowerOfUnits(t *testing.T) {
	huge := make(api.Nat, api.MaxBits/32+1)
	huge[len(huge)-1] = 1
	for _, k := range []int{math.MinInt, math.MinInt + 1, -api.MaxBits - 1, -1, 0, 1, 2, api.MaxBits + 1, math.MaxInt - 1, math.MaxInt} {
		for _, one := range []api.Ratio{raw(1), raw(3, 3, 0), {Num: huge, Den: huge}} {
			got, e := Power(one, k)
			if e != api.OK {
				t.Error(k, e)
			}
			expect(t, got, big.NewRat(1, 1), k)
		}
		want := big.NewRat(1, 1)
		if k%2 != 0 {
			want.Neg(want)
		}
		for _, minus := range []api.Ratio{raw(-1), raw(-6, 6), {Neg: true, Num: huge, Den: huge}} {
			got, e := Power(minus, k)
			if e != api.OK {
				t.Error(k, e)
			}
			expect(t, got, want, k)
		}
		for _, zero := range []api.Ratio{{}, {Neg: true}, raw(0, 5)} {
			got, e := Power(zero, k)
			switch {
			case k < 0:
				expectNone(t, got, e, api.ErrRationalZero, k)
			case k == 0:
				expect(t, got, big.NewRat(1, 1), k)
			default:
				expect(t, got, new(big.Rat), k)
			}
			if k >= 0 && e != api.OK {
				t.Error(k, e)
			}
		}
	}
}

// TestPowerAtTheLimit checks the greatest exponents without an error, which the bits in lowest terms decide.
func TestPowerAtTheLimit(t *testing.T) {
	for _, x := range []struct {
		x    api.Ratio
		last int
	}{
		{raw(2), 65536}, {raw(-2), 65536}, {raw(3), 65536}, {raw(1, 2), 65536}, {raw(-1, 3), 65536}, {raw(4), 43690}, {raw(3, 8), 32768},
		{raw(8, 3), 32768}, {raw(6, 4), 65536}, {raw(-12, 24), 65536}, {raw(1, 0, 1), 3971}, {raw(5, 1<<31), 4096}, {raw(1<<32, 7), 3971},
	} {
		for _, k := range []int{x.last, -x.last} {
			got, e := Power(x.x, k)
			if e != api.OK {
				t.Error(x.x, k, e)
			}
			lowest := reference(x.x)
			num := new(big.Int).Exp(lowest.Num(), big.NewInt(int64(x.last)), nil)
			den := new(big.Int).Exp(lowest.Denom(), big.NewInt(int64(x.last)), nil)
			want := new(big.Rat).SetFrac(num, den)
			if k < 0 {
				want.Inv(want)
			}
			expect(t, got, want, "power", k)
		}
		for _, k := range []int{x.last + 1, -x.last - 1, api.MaxBits, -api.MaxBits, math.MaxInt, math.MinInt, math.MinInt + 1} {
			got, e := Power(x.x, k)
			expectNone(t, got, e, api.ErrRationalSize, x.x, k)
		}
	}
	full := make(api.Nat, api.MaxBits/32+1)
	full[len(full)-2] = 1 << 31
	longer := make(api.Nat, api.MaxBits/32+1)
	longer[len(longer)-1] = 1
	for _, x := range []struct {
		x api.Ratio
		k int
		e api.Errno
	}{
		{api.Ratio{Num: full}, 1, api.OK}, {api.Ratio{Num: nat(1), Den: full}, -1, api.OK}, {api.Ratio{Num: full}, 2, api.ErrRationalSize},
		{api.Ratio{Num: longer}, 1, api.ErrRationalSize}, {api.Ratio{Num: nat(1), Den: longer}, 1, api.ErrRationalSize},
		{api.Ratio{Num: longer}, -1, api.ErrRationalSize}, {api.Ratio{Num: longer}, 0, api.OK}, {api.Ratio{Num: longer, Den: nat(2)}, 1, api.OK},
	} {
		got, e := Power(x.x, x.k)
		if e != x.e {
			t.Error(len(x.x.Num), len(x.x.Den), x.k, e)
		}
		if e == api.OK {
			expect(t, got, powerOf(reference(x.x), x.k), x.k)
		} else {
			expectNone(t, got, e, x.e, x.k)
		}
	}
}

// decimalText returns x in decimal notation by math/big, which writes a rounded 0 with the sign of x.
func decimalText(x *big.Rat, places int) string {
	text := x.FloatString(places)
	if strings.Trim(text, "-0.") == "" {
		return strings.TrimPrefix(text, "-")
	}
	return text
}

// checkDecimals compares Round and Format with math/big, whose halves are away from zero, too.
func checkDecimals(t *testing.T, x api.Ratio, digits int) {
	t.Helper()
	text := decimalText(reference(x), min(max(digits, 0), 12))
	want, _ := new(big.Rat).SetString(text)
	expect(t, Round(x, digits), want, "round", x, digits)
	if got := Format(x, digits); got != text {
		t.Error("format", x, digits, got, text)
	}
}

func TestRoundAndFormat(t *testing.T) {
	list := samples()
	for _, den := range []uint32{2, 3, 8, 20, 40, 200, 400, 1000, 2000, 7000} {
		for num := int64(-45); num <= 45; num++ {
			list = append(list, raw(num, den), raw(num*1001, den))
		}
	}
	for _, x := range list {
		for _, digits := range []int{math.MinInt, -1, 0, 1, 2, 3, 6, 11, 12, 13, 100, math.MaxInt} {
			checkDecimals(t, x, digits)
		}
	}
}

func TestRoundAndFormatByExample(t *testing.T) {
	for _, x := range []struct {
		x      api.Ratio
		digits int
		want   *big.Rat
		text   string
	}{
		{raw(5, 4), 1, big.NewRat(13, 10), "1.3"}, {raw(-5, 4), 1, big.NewRat(-13, 10), "-1.3"}, {raw(1, 3), 2, big.NewRat(33, 100), "0.33"},
		{raw(-1, 3), 2, big.NewRat(-33, 100), "-0.33"}, {raw(-1, 300), 2, new(big.Rat), "0.00"}, {raw(7), 0, big.NewRat(7, 1), "7"},
		{raw(1, 2), 0, big.NewRat(1, 1), "1"}, {raw(-1, 2), 0, big.NewRat(-1, 1), "-1"}, {raw(499, 1000), 0, new(big.Rat), "0"},
		{raw(-499, 1000), 0, new(big.Rat), "0"}, {raw(5, 2), -3, big.NewRat(3, 1), "3"}, {raw(0), 3, new(big.Rat), "0.000"},
		{api.Ratio{Neg: true}, 0, new(big.Rat), "0"}, {raw(999, 1000), 2, big.NewRat(1, 1), "1.00"}, {raw(-1, 200), 2, big.NewRat(-1, 100), "-0.01"},
		{raw(1205, 100), 4, big.NewRat(241, 20), "12.0500"}, {raw(1, 3), 50, big.NewRat(333333333333, 1000000000000), "0.333333333333"},
		{api.Ratio{Num: nat(0, 0, 1)}, 1, new(big.Rat).SetInt(integer(nat(0, 0, 1))), "18446744073709551616.0"},
	} {
		expect(t, Round(x.x, x.digits), x.want, "round", x.x, x.digits)
		if got := Format(x.x, x.digits); got != x.text {
			t.Error(x.x, x.digits, got)
		}
	}
}

func TestRoundOfLongNumbers(t *testing.T) {
	for _, k := range []int{100, 1000, -3000} {
		x, e := Power(raw(-7, 3), k)
		if e != api.OK {
			t.Error(k, e)
		}
		for _, digits := range []int{0, 5, 12} {
			checkDecimals(t, x, digits)
		}
	}
}

func TestParse(t *testing.T) {
	nines := strings.Repeat("9", 30)
	for _, s := range []string{
		"0", "1", "9", "10", "-1", "-10", "7", "12.50", "0.0", "0.000000000000", "0.5", "-0.5", "-0.000000000001", "1.0", "-1.00", "0.125", "100.001",
		"4294967296.4294967296", "0.999999999999", "18446744073709551616", nines, "-" + nines, nines + ".999999999999", "-" + nines + ".000000000001",
		"1" + strings.Repeat("0", 29),
	} {
		got, e := Parse(s)
		if e != api.OK {
			t.Error(s, e)
		}
		want, _ := new(big.Rat).SetString(s)
		expect(t, got, want, s)
	}
	if got, e := Parse("12.50"); e != api.OK || !slices.Equal(got.Num, nat(25)) || !slices.Equal(got.Den, nat(2)) {
		t.Error(got, e)
	}
}

func TestParseRefuses(t *testing.T) {
	long := "1" + strings.Repeat("0", 30)
	for _, s := range []string{
		"", "-", ".", "-.", "-0", "-0.0", "-0.000000000000", "00", "012", "-012", "00.5", "1.", "-1.", "0.", ".5", "-.5", "1.2.3", "1..2", "+1", "++1", "--1", "1-",
		"1.-5", "1.+5", "-+1", " 1", "1 ", "1. 5", "1.5 ", "1,5", "1e3", "1.5e3", "0x1", "1.0x1", "1_0", "1.1_0", "1/2", "a", "1a", "1.a", "½", "１", "1.１", "٣",
		"\x00", "1\x00", "1.5\n", "\xff", "0.0000000000001", "1.0000000000000", "0." + strings.Repeat("1", 40), long, "-" + long, long + ".5",
		strings.Repeat("9", api.MaxDigits), strings.Repeat("9", 3*api.MaxDigits), "Inf", "NaN",
	} {
		got, e := Parse(s)
		expectNone(t, got, e, api.ErrRationalForm, s)
	}
}

// lent returns n with spare capacity that must not be written.
func lent(n api.Nat) api.Nat {
	memory := append(slices.Clone(n), 11, 12, 13, 14, 15, 16, 17, 18)
	return memory[:len(n)]
}

func lentRatio(x api.Ratio) api.Ratio {
	return api.Ratio{Neg: x.Neg, Num: lent(x.Num), Den: lent(x.Den)}
}

// whole reports whether a lent number is still as it was lent, spare capacity included.
func whole(x, lent api.Ratio) bool {
	same := func(a, b api.Nat) bool { return slices.Equal(a[:cap(a)], b[:cap(b)]) }
	want := lentRatio(x)
	return same(lent.Num, want.Num) && same(lent.Den, want.Den)
}

// overwrite changes all the memory of a numerator; the denominator must not change with it. Then it changes that, too.
func overwrite(t *testing.T, name string, x api.Ratio) {
	t.Helper()
	den := slices.Clone(x.Den[:cap(x.Den)])
	flip := func(n api.Nat) {
		for i := range n {
			n[i] = ^n[i]
		}
	}
	flip(x.Num[:cap(x.Num)])
	if !slices.Equal(x.Den[:cap(x.Den)], den) {
		t.Error(name, "shares memory within its result")
	}
	flip(x.Den[:cap(x.Den)])
}

func TestArgumentsAreNeitherChangedNorShared(t *testing.T) {
	calls := map[string]func(x, y api.Ratio) api.Ratio{
		"New":       func(x, y api.Ratio) api.Ratio { z, _ := New(x.Num, y.Num); return z },
		"Normalize": func(x, y api.Ratio) api.Ratio { return Normalize(x) },
		"Sign":      func(x, y api.Ratio) api.Ratio { return FromInt(int64(Sign(x))) },
		"Compare":   func(x, y api.Ratio) api.Ratio { return FromInt(int64(Compare(x, y))) },
		"Negate":    func(x, y api.Ratio) api.Ratio { return Negate(x) },
		"Add":       func(x, y api.Ratio) api.Ratio { return Add(x, y) },
		"Sub":       func(x, y api.Ratio) api.Ratio { return Sub(x, y) },
		"Mul":       func(x, y api.Ratio) api.Ratio { return Mul(x, y) },
		"Quo":       func(x, y api.Ratio) api.Ratio { z, _ := Quo(x, y); return z },
		"Power":     func(x, y api.Ratio) api.Ratio { z, _ := Power(x, 1); return z },
		"Inverse":   func(x, y api.Ratio) api.Ratio { z, _ := Power(x, -1); return z },
		"Sum":       func(x, y api.Ratio) api.Ratio { return Sum([]api.Ratio{x, y}) },
		"Round":     func(x, y api.Ratio) api.Ratio { return Round(x, 3) },
		"Format":    func(x, y api.Ratio) api.Ratio { Format(x, 3); return api.Ratio{} },
	}
	list := []api.Ratio{{}, raw(0, 0), raw(1), raw(1, 1), raw(-5), raw(6, 4, 0), raw(3, 7), {Num: nat(1, 2, 3), Den: nat(4, 5, 6)}, {Neg: true, Num: nat(4, 5, 6), Den: nat(1, 2, 3)}}
	for name, call := range calls {
		for _, x := range list {
			for _, y := range list {
				a, b := lentRatio(x), lentRatio(y)
				overwrite(t, name, call(a, b))
				if !whole(x, a) || !whole(y, b) {
					t.Error(name, x, y, "became", a, b)
				}
				same := lentRatio(x)
				overwrite(t, name, call(same, same))
				if !whole(x, same) {
					t.Error(name, x, "twice became", same)
				}
			}
		}
	}
}

func TestSumLeavesItsList(t *testing.T) {
	memory := []api.Ratio{raw(6, 4), raw(1, 3), raw(9, 9), raw(7, 7)}
	Sum(memory[:2])
	for i, want := range []api.Ratio{raw(6, 4), raw(1, 3), raw(9, 9), raw(7, 7)} {
		if !slices.Equal(memory[i].Num, want.Num) || !slices.Equal(memory[i].Den, want.Den) {
			t.Error(i, memory[i])
		}
	}
}

// agree reports whether two results are the same, limb by limb.
func agree(x, y api.Ratio) bool {
	return x.Neg == y.Neg && slices.Equal(x.Num, y.Num) && slices.Equal(x.Den, y.Den)
}

func TestFieldLaws(t *testing.T) {
	list := []api.Ratio{raw(0, 3), raw(1), raw(-1), raw(6, 4), raw(-35, 77), raw(top, 9, 9), raw(-12, 0, 5)}
	for _, x := range list {
		for _, y := range list {
			if !agree(Sub(Add(x, y), y), Normalize(x)) || !agree(Sub(x, y), Negate(Sub(y, x))) || Compare(x, y) != Sign(Sub(x, y)) {
				t.Error("difference", x, y)
			}
			if z, e := Quo(Mul(x, y), y); e == api.OK && !agree(z, Normalize(x)) {
				t.Error("quotient", x, y, z)
			}
			for _, z := range list {
				if !agree(Add(Add(x, y), z), Add(x, Add(y, z))) || !agree(Mul(Mul(x, y), z), Mul(x, Mul(y, z))) || !agree(Mul(x, Add(y, z)), Add(Mul(x, y), Mul(x, z))) {
					t.Error("laws", x, y, z)
				}
			}
		}
	}
}

func TestRoundIsNearMonotoneAndReadBack(t *testing.T) {
	list := samples()
	slices.SortFunc(list, Compare)
	for digits := range api.MaxDecimals + 1 {
		half, _ := Power(raw(10), -digits)
		half = Mul(half, raw(1, 2))
		last := Round(list[0], digits)
		for _, x := range list {
			rounded := Round(x, digits)
			if Compare(last, rounded) > 0 {
				t.Error("not monotone", x, digits)
			}
			last = rounded
			distance := Sub(rounded, x)
			if Compare(distance, half) > 0 || Compare(Negate(distance), half) > 0 {
				t.Error("not near", x, digits, rounded)
			}
			back, e := Parse(Format(x, digits))
			if e != api.OK || !agree(back, rounded) {
				t.Error("not read back", x, digits, back, e)
			}
		}
	}
}
