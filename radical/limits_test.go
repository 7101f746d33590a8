package radical

import (
	"math"
	"slices"
	"testing"

	"priceoffice/api"
	"priceoffice/natural"
	"priceoffice/rational"
)

// twoTo returns 2^k, which has k + 2 bits as a rational number.
func twoTo(k int) api.Ratio {
	num, _ := natural.Power(api.Nat{2}, k)
	return api.Ratio{Num: num}
}

// halfTo returns 2^-k.
func halfTo(k int) api.Ratio {
	return api.Ratio{Num: api.Nat{1}, Den: twoTo(k).Num}
}

func ofDegree(value api.Ratio, degree int) api.Radical {
	return api.Radical{Value: value, Degree: degree}
}

// expectErrors checks the error of Mul, Quo and Compare, which have the same one.
func expectErrors(t *testing.T, a, b api.Radical, want api.Errno) {
	t.Helper()
	for _, call := range []func(a, b api.Radical) (api.Radical, api.Errno){Mul, Quo} {
		got, e := call(a, b)
		switch {
		case want != api.OK:
			expectNone(t, got, e, want, a.Degree, b.Degree)
		case e != api.OK:
			t.Error(a.Degree, b.Degree, e)
		}
	}
	if got, e := Compare(a, b); e != want || e != api.OK && got != 0 {
		t.Error(a.Degree, b.Degree, got, e)
	}
}

// notPositive returns numbers that have no root, 0 with a sign too.
func notPositive() []api.Ratio {
	return []api.Ratio{{}, {Neg: true}, {Num: api.Nat{0, 0}, Den: api.Nat{5}}, {Neg: true, Num: api.Nat{0}}, fraction(-1, 1), fraction(-4, 9), {Neg: true, Num: api.Nat{4}, Den: api.Nat{0}}}
}

var badDegrees = [...]int{math.MinInt, -1024, -1, 0, 1025, 1 << 32, 1<<32 + 2, math.MaxInt}

// TestValue has values that are not positive, beside degrees that are not valid and exponents that are too large: the
// value is the first error.
func TestValue(t *testing.T) {
	for _, bad := range notPositive() {
		for _, degree := range []int{1, 2, 1024, 0, -1, 1025, math.MaxInt, math.MinInt} {
			a, long := ofDegree(bad, degree), ofDegree(twoTo(70000), degree)
			got, e := Make(bad, degree)
			expectNone(t, got, e, api.ErrRadicalValue, "make", degree)
			for _, k := range []int{0, 1, -1, 2000, math.MaxInt, math.MinInt} {
				got, e = Power(a, k)
				expectNone(t, got, e, api.ErrRadicalValue, "power", degree, k)
				got, e = Root(a, k)
				expectNone(t, got, e, api.ErrRadicalValue, "root", degree, k)
				got, e = Weighted([]api.Ratio{twoTo(70000), bad}, []int{math.MaxInt, k}, degree)
				expectNone(t, got, e, api.ErrRadicalValue, "weighted", degree, k)
			}
			expectErrors(t, a, long, api.ErrRadicalValue)
			expectErrors(t, long, a, api.ErrRadicalValue)
			expectErrors(t, a, a, api.ErrRadicalValue)
			expectErrors(t, ofDegree(twoTo(70000), 1024), ofDegree(bad, 1023), api.ErrRadicalValue)
			if x, e := Round(a, 3); e != api.ErrRadicalValue || !agree(x, api.Ratio{}) {
				t.Error("round", degree, x, e)
			}
		}
		for _, list := range [][]api.Ratio{{bad}, {bad, twoTo(70000)}, {twoTo(70000), bad}, {whole(1), bad, whole(2)}} {
			got, e := Mean(list)
			expectNone(t, got, e, api.ErrRadicalValue, "mean", len(list))
		}
	}
}

// TestDegree has degrees that are not valid, beside values that are too long: the degree is the first error.
func TestDegree(t *testing.T) {
	for _, degree := range badDegrees {
		for _, value := range []api.Ratio{whole(1), whole(4), fraction(8, 27), twoTo(70000)} {
			a := ofDegree(value, degree)
			got, e := Make(value, degree)
			expectNone(t, got, e, api.ErrRadicalDegree, "make", degree)
			for _, k := range []int{1, 0, -1, 1024, math.MaxInt, math.MinInt} {
				got, e = Power(a, k)
				expectNone(t, got, e, api.ErrRadicalDegree, "power", degree, k)
				got, e = Root(a, k)
				expectNone(t, got, e, api.ErrRadicalDegree, "root", degree, k)
				got, e = Weighted([]api.Ratio{value, whole(3)}, []int{k, 1}, degree)
				expectNone(t, got, e, api.ErrRadicalDegree, "weighted", degree, k)
			}
			got, e = Root(ofDegree(value, 1), degree)
			expectNone(t, got, e, api.ErrRadicalDegree, "root", degree)
			expectErrors(t, a, ofDegree(whole(3), 2), api.ErrRadicalDegree)
			expectErrors(t, ofDegree(whole(3), 2), a, api.ErrRadicalDegree)
			expectErrors(t, a, a, api.ErrRadicalDegree)
			if x, e := Round(a, 3); e != api.ErrRadicalDegree || !agree(x, api.Ratio{}) {
				t.Error("round", degree, x, e)
			}
		}
	}
}

// TestDegreeOfTwo has degrees whose least common multiple, or product, is just valid or not.
func TestDegreeOfTwo(t *testing.T) {
	for _, x := range []struct {
		a, b int
		e    api.Errno
	}{
		{1024, 1024, api.OK}, {1024, 512, api.OK}, {1024, 1, api.OK}, {341, 3, api.OK}, {32, 31, api.OK}, {33, 31, api.OK}, {1000, 500, api.OK}, {1024, 3, api.ErrRadicalDegree},
		{32, 33, api.ErrRadicalDegree}, {342, 5, api.ErrRadicalDegree}, {1024, 1023, api.ErrRadicalDegree}, {410, 615, api.ErrRadicalDegree}, {205, 1025, api.ErrRadicalDegree},
	} {
		for _, value := range []api.Ratio{whole(1), whole(2), fraction(2, 3)} {
			expectErrors(t, ofDegree(value, x.a), ofDegree(whole(2), x.b), x.e)
			expectErrors(t, ofDegree(whole(2), x.b), ofDegree(value, x.a), x.e)
		}
	}
	expectErrors(t, ofDegree(twoTo(70000), 1024), ofDegree(twoTo(70000), 1023), api.ErrRadicalDegree)
	for _, x := range []struct {
		degree, k int
		e         api.Errno
	}{
		{1, 1024, api.OK}, {1024, 1, api.OK}, {32, 32, api.OK}, {341, 3, api.OK}, {33, 31, api.OK}, {2, 512, api.OK},
		{32, 33, api.ErrRadicalDegree}, {1024, 2, api.ErrRadicalDegree}, {1024, 1024, api.ErrRadicalDegree}, {41, 25, api.ErrRadicalDegree},
		{1024, 1 << 54, api.ErrRadicalDegree}, {1024, 1<<54 + 1, api.ErrRadicalDegree},
	} {
		for _, value := range []api.Ratio{whole(1), whole(2)} {
			got, e := Root(ofDegree(value, x.degree), x.k)
			switch {
			case x.e == api.OK && e != api.OK:
				t.Error(x, e)
			case x.e != api.OK:
				expectNone(t, got, e, x.e, x)
			}
		}
	}
}

// TestSizeOfOne checks the greatest values without an error where the exponent is 1.
func TestSizeOfOne(t *testing.T) {
	odd := rational.Add(twoTo(65532), fraction(1, 1))
	for _, x := range []struct {
		value api.Ratio
		e     api.Errno
	}{
		{twoTo(65534), api.OK}, {twoTo(65535), api.ErrRadicalSize}, {halfTo(65534), api.OK}, {halfTo(65535), api.ErrRadicalSize}, {loose(twoTo(65534)), api.OK},
		{loose(halfTo(65535)), api.ErrRadicalSize}, {api.Ratio{Num: odd.Num, Den: api.Nat{4}}, api.OK}, {api.Ratio{Num: odd.Num, Den: api.Nat{8}}, api.ErrRadicalSize},
		{api.Ratio{Num: twoTo(90000).Num, Den: twoTo(80000).Num}, api.OK}, {twoTo(api.MaxBits - 1), api.ErrRadicalSize}, {twoTo(1 << 16), api.ErrRadicalSize},
	} {
		a, size := ofDegree(x.value, 1), natural.Bits(x.value.Num)
		if got, e := Make(x.value, 1); e != x.e || e == api.OK && !agree(got.Value, rational.Normalize(x.value)) {
			t.Error("make", size, e)
		}
		if got, ok := Rational(a); ok != (x.e == api.OK) || ok && !agree(got, rational.Normalize(x.value)) {
			t.Error("rational", size, ok)
		}
		if got, e := Round(a, 0); e != x.e || e == api.OK && !agree(got, rational.Round(x.value, 0)) {
			t.Error("round", size, e)
		}
		if got, e := Mean([]api.Ratio{x.value}); e != x.e || e == api.OK && !agree(got.Value, rational.Normalize(x.value)) {
			t.Error("mean", size, e)
		}
		if _, e := Root(a, 2); e != x.e {
			t.Error("root", size, e)
		}
		if _, e := Root(ofDegree(x.value, 1024), 1); e != x.e {
			t.Error("root", size, e)
		}
	}
}

// TestSizeOfPowers checks the greatest exponents without an error.
func TestSizeOfPowers(t *testing.T) {
	for _, x := range []struct {
		value api.Ratio
		last  int
	}{{whole(1), 32768}, {whole(2), 21845}, {fraction(1, 3), 21845}, {whole(5), 16384}, {fraction(6, 4), 16384}, {twoTo(32766), 2}, {twoTo(40000), 1}, {twoTo(65535), 0}, {twoTo(100000), 0}} {
		for _, degree := range []int{1, 2, 1024} {
			for _, k := range []int{x.last, -x.last} {
				want, _ := rational.Power(x.value, k)
				list, powers := []api.Ratio{x.value, twoTo(70000)}, []int{k, 0}
				got, e := Power(ofDegree(x.value, degree), k)
				again, f := Weighted(list, powers, degree)
				if e != api.OK || f != api.OK || got.Degree != again.Degree || !agree(got.Value, again.Value) || degree == 1 && !agree(got.Value, want) {
					t.Error(natural.Bits(x.value.Num), degree, k, e, f)
				}
			}
			for _, k := range []int{x.last + 1, -x.last - 1, 1 << 16, 1 << 32, 1 << 61, 1 << 62, -1 << 62, math.MaxInt, math.MinInt, math.MinInt + 1} {
				got, e := Power(ofDegree(x.value, degree), k)
				expectNone(t, got, e, api.ErrRadicalSize, "power", degree, k)
				got, e = Weighted([]api.Ratio{whole(1), x.value}, []int{0, k}, degree)
				expectNone(t, got, e, api.ErrRadicalSize, "weighted", degree, k)
			}
		}
	}
}

// TestSizeOfSums checks that the effort is a sum: factors that cancel count, and no sum of theirs wraps around.
func TestSizeOfSums(t *testing.T) {
	for _, x := range []struct {
		list   []api.Ratio
		powers []int
		e      api.Errno
	}{
		{[]api.Ratio{whole(2), fraction(1, 2)}, []int{10922, 10922}, api.OK}, {[]api.Ratio{whole(2), fraction(1, 2)}, []int{10923, 10923}, api.ErrRadicalSize},
		{[]api.Ratio{whole(2), whole(2)}, []int{10923, -10923}, api.ErrRadicalSize}, {[]api.Ratio{whole(1), whole(1)}, []int{32767, -1}, api.OK},
		{[]api.Ratio{whole(1), whole(1)}, []int{32767, 2}, api.ErrRadicalSize}, {[]api.Ratio{whole(1), whole(1)}, []int{1 << 62, 1 << 62}, api.ErrRadicalSize},
		{[]api.Ratio{whole(1), whole(1)}, []int{math.MinInt, math.MinInt}, api.ErrRadicalSize}, {slices.Repeat([]api.Ratio{whole(1)}, 4), slices.Repeat([]int{1 << 61}, 4), api.ErrRadicalSize},
		{[]api.Ratio{whole(1), whole(2), whole(1)}, []int{1, math.MinInt, 1}, api.ErrRadicalSize}, {[]api.Ratio{twoTo(65532), whole(1)}, []int{-1, 1}, api.OK},
		{[]api.Ratio{twoTo(65533), whole(1)}, []int{-1, 1}, api.ErrRadicalSize}, {slices.Repeat([]api.Ratio{twoTo(70000)}, 256), make([]int, 256), api.OK},
	} {
		if got, e := Weighted(x.list, x.powers, 7); e != x.e {
			t.Error(x.powers, e)
		} else if e != api.OK {
			expectNone(t, got, e, x.e, x.powers)
		}
	}
	list := slices.Repeat([]api.Ratio{twoTo(254)}, api.MaxFactors)
	got, e := Mean(list)
	expect(t, got, e, ofDegree(twoTo(254), 1))
	list[255] = halfTo(255)
	got, e = Mean(list)
	expectNone(t, got, e, api.ErrRadicalSize)
	// The exponents of the degrees 2 and 3 are 3 and 2, those of equal degrees 1.
	expectErrors(t, ofDegree(twoTo(19998), 2), ofDegree(twoTo(2766), 3), api.OK)
	expectErrors(t, ofDegree(twoTo(19998), 2), ofDegree(halfTo(2767), 3), api.ErrRadicalSize)
	expectErrors(t, ofDegree(twoTo(19999), 2), ofDegree(twoTo(2766), 3), api.ErrRadicalSize)
	expectErrors(t, ofDegree(twoTo(32766), 1024), ofDegree(twoTo(32766), 1024), api.OK)
	expectErrors(t, ofDegree(twoTo(32766), 1024), ofDegree(twoTo(32767), 1024), api.ErrRadicalSize)
	// The degrees are those that are given: 4^(1/2) has the degree 2 here.
	expectErrors(t, ofDegree(whole(4), 2), ofDegree(twoTo(40000), 3), api.ErrRadicalSize)
	expectErrors(t, ofDegree(whole(2), 1), ofDegree(twoTo(40000), 3), api.OK)
}

func TestList(t *testing.T) {
	var none []api.Ratio
	for _, list := range [][]api.Ratio{none, {}, make([]api.Ratio, 257), slices.Repeat([]api.Ratio{whole(1)}, 257), make([]api.Ratio, 1025)} {
		got, e := Mean(list)
		expectNone(t, got, e, api.ErrRadicalList, len(list))
		for _, degree := range []int{1, 0, -1, 1025} {
			got, e = Weighted(list, make([]int, len(list)), degree)
			expectNone(t, got, e, api.ErrRadicalList, len(list), degree)
		}
	}
	for _, powers := range [][]int{nil, {}, {1}, {1, 1, 1}, {math.MinInt}, make([]int, 256)} {
		for _, list := range [][]api.Ratio{{whole(1), whole(2)}, {whole(0), whole(-2)}, {twoTo(70000), twoTo(70000)}} {
			for _, degree := range []int{1, 0, 1025} {
				got, e := Weighted(list, powers, degree)
				expectNone(t, got, e, api.ErrRadicalList, powers, degree)
			}
		}
	}
	got, e := Weighted(slices.Repeat([]api.Ratio{whole(2)}, 256), slices.Repeat([]int{1}, 256), 512)
	expect(t, got, e, root(2, 1, 2))
}
