package natural

import (
	"math"
	"math/big"
	"slices"
	"sort"
	"strings"
	"testing"

	"priceoffice/api"
)

const top = math.MaxUint32

func nat(limbs ...uint32) api.Nat { return limbs }

// padded returns n with zero limbs at its end, which do not count.
func padded(n api.Nat) api.Nat { return append(slices.Clone(n), 0, 0, 0) }

// reference returns n as a number of math/big, which the tests compare the package with.
func reference(n api.Nat) *big.Int {
	z := new(big.Int)
	for _, limb := range slices.Backward(n) {
		z.Or(z.Lsh(z, 32), big.NewInt(int64(limb)))
	}
	return z
}

// expect checks that got is canonical and denotes want.
func expect(t *testing.T, got api.Nat, want *big.Int, call ...any) {
	t.Helper()
	if len(got) > 0 && got[len(got)-1] == 0 {
		t.Error("not canonical:", got, call)
	}
	if reference(got).Cmp(want) != 0 {
		t.Error("got", got, "want", want, call)
	}
}

// edges returns the numbers of up to three limbs that are all near a power of 2, some of them not canonical.
func edges() []api.Nat {
	limbs := []uint32{0, 1, 2, 1<<31 - 1, 1 << 31, top - 1, top}
	list := []api.Nat{nil, {}}
	for _, a := range limbs {
		list = append(list, nat(a))
		for _, b := range limbs {
			list = append(list, nat(a, b))
			for _, c := range []uint32{0, 1, 1 << 31, top} {
				list = append(list, nat(a, b, c))
			}
		}
	}
	return list
}

// scattered returns count numbers of up to size limbs, the same ones in each run.
func scattered(count, size int) []api.Nat {
	state := uint64(count + size)
	next := func() uint32 {
		state = state*6364136223846793005 + 1442695040888963407
		return uint32(state >> 33)
	}
	list := make([]api.Nat, count)
	for i := range list {
		list[i] = make(api.Nat, 1+int(next())%size)
		for k := range list[i] {
			list[i][k] = next() << (next() % 2)
		}
	}
	return list
}

func TestTrimGivesTheCanonicalForm(t *testing.T) {
	for _, x := range []struct{ n, want api.Nat }{
		{nil, nil}, {nat(), nil}, {nat(0), nil}, {nat(0, 0, 0), nil}, {nat(7), nat(7)}, {nat(7, 0), nat(7)},
		{nat(0, 7), nat(0, 7)}, {nat(0, 7, 0, 0), nat(0, 7)}, {nat(1, 0, 2), nat(1, 0, 2)},
	} {
		if got := Trim(x.n); !slices.Equal(got, x.want) {
			t.Error(x.n, got)
		}
	}
}

func TestFromUintAndUint(t *testing.T) {
	for _, v := range []uint64{0, 1, 2, top - 1, top, top + 1, 1 << 33, 1<<32 + 5, 1 << 63, math.MaxUint64 - 1, math.MaxUint64} {
		n := FromUint(v)
		expect(t, n, new(big.Int).SetUint64(v), v)
		for _, form := range []api.Nat{n, padded(n)} {
			if got, ok := Uint(form); got != v || !ok {
				t.Error(v, form, got, ok)
			}
		}
	}
	for _, n := range []api.Nat{nat(0, 0, 1), nat(5, 6, 1), nat(5, 6, 1, 0), nat(0, 0, 0, 9), nat(5, 0, 0, 1)} {
		if got, ok := Uint(n); got != 0 || ok {
			t.Error(n, got, ok)
		}
	}
}

func TestCompareAndBits(t *testing.T) {
	list := append(edges(), scattered(20, 6)...)
	for _, a := range list {
		if got, want := Bits(a), reference(a).BitLen(); got != want || Bits(padded(a)) != want {
			t.Error(a, got, want)
		}
		for _, b := range list {
			want := reference(a).Cmp(reference(b))
			if Compare(a, b) != want || Compare(padded(a), b) != want || Compare(a, padded(b)) != want {
				t.Error(a, b, want)
			}
		}
	}
	for _, x := range []struct {
		n    api.Nat
		want int
	}{{nil, 0}, {nat(0, 0), 0}, {nat(1), 1}, {nat(3), 2}, {nat(4), 3}, {nat(top), 32}, {nat(0, 1), 33}, {nat(0, 1, 0), 33}, {nat(0, top), 64}} {
		if got := Bits(x.n); got != x.want {
			t.Error(x.n, got)
		}
	}
}

func TestAddSubAndMul(t *testing.T) {
	list := append(edges(), scattered(40, 9)...)
	for _, a := range list {
		for _, b := range list {
			x, y := reference(a), reference(b)
			expect(t, Add(a, b), new(big.Int).Add(x, y), "add", a, b)
			expect(t, Mul(a, b), new(big.Int).Mul(x, y), "mul", a, b)
			difference, ok := Sub(a, b)
			if ok != (x.Cmp(y) >= 0) {
				t.Error("sub", a, b, ok)
			}
			if ok {
				expect(t, difference, new(big.Int).Sub(x, y), "sub", a, b)
			} else if len(difference) != 0 {
				t.Error("a difference beside false", a, b, difference)
			}
		}
	}
	for _, x := range []struct{ got, want api.Nat }{
		{Add(nat(top), nat(1)), nat(0, 1)},
		{Add(nat(top, top, top), nat(1)), nat(0, 0, 0, 1)},
		{Add(padded(nat(1)), padded(nat(2))), nat(3)},
		{Mul(nat(0, 1), nat(0, 2)), nat(0, 0, 2)},
		{Mul(nat(top, top), nat(top, top)), nat(1, 0, top-1, top)},
		{Mul(padded(nat(5)), padded(nat(6))), nat(30)},
		{Mul(nil, nat(6, 7)), nil},
	} {
		if !slices.Equal(x.got, x.want) {
			t.Error(x.got, x.want)
		}
	}
	if got, ok := Sub(nat(0, 1), nat(1)); !slices.Equal(got, nat(top)) || !ok {
		t.Error(got, ok)
	}
	if got, ok := Sub(nat(5, 6), padded(nat(5, 6))); len(got) != 0 || !ok {
		t.Error(got, ok)
	}
}

// checkDivision compares Divide with math/big.
func checkDivision(t *testing.T, a, b api.Nat) {
	t.Helper()
	q, r, ok := Divide(a, b)
	x, y := reference(a), reference(b)
	if ok != (y.Sign() > 0) {
		t.Error(a, b, ok)
	}
	if !ok {
		if len(q)+len(r) != 0 {
			t.Error("results beside false", a, b, q, r)
		}
		return
	}
	quotient, remainder := new(big.Int).QuoRem(x, y, new(big.Int))
	expect(t, q, quotient, "quotient", a, b)
	expect(t, r, remainder, "remainder", a, b)
}

func TestDivide(t *testing.T) {
	for _, list := range [][]api.Nat{edges(), scattered(60, 12)} {
		for _, a := range list {
			for _, b := range list {
				checkDivision(t, a, b)
			}
		}
	}
	for _, a := range scattered(40, 7) {
		for _, b := range edges() {
			checkDivision(t, Mul(a, b), padded(b))
			checkDivision(t, Add(Mul(a, b), nat(1)), b)
		}
	}
	for _, x := range []struct{ a, b, q, r api.Nat }{
		{nat(7), nat(2), nat(3), nat(1)},
		{nat(7), nat(7), nat(1), nil},
		{nat(6, 0), nat(7), nil, nat(6)},
		{nil, nat(7), nil, nil},
		{nat(5, 0, 0), nat(2, 0), nat(2), nat(1)},
		{nat(9, 0, 1), nat(0, 1), nat(0, 1), nat(9)},
		{nat(0, 0, 0, 1), nat(1, 0, 1), nat(top), nat(1, top)},
	} {
		if q, r, ok := Divide(x.a, x.b); !ok || !slices.Equal(q, x.q) || !slices.Equal(r, x.r) {
			t.Error(x.a, x.b, q, r, ok)
		}
	}
}

// TestDivideWithWrongDigits has quotients whose digits are first estimated by one or two too high.
func TestDivideWithWrongDigits(t *testing.T) {
	limbs := []uint32{0, 1, 2, 3, 1<<31 - 1, 1 << 31, 1<<31 + 1, top - 1, top}
	for _, a := range limbs {
		for _, b := range limbs {
			for _, c := range limbs {
				for _, d := range limbs {
					checkDivision(t, nat(a, b, c, d), nat(d, a, b))
					checkDivision(t, nat(0, a, b, c), nat(d, c, 1<<31))
					checkDivision(t, nat(a, b, c, d), nat(c, d))
				}
			}
		}
	}
	// Here the two highest limbs of the divisor do not show that the digit is too high.
	checkDivision(t, nat(3, 0, 1<<31, 1<<31-1), nat(1, 0, 1<<31))
	checkDivision(t, nat(0, 0, 1<<31, 1<<31-1), nat(1, 0, 1<<31))
}

func TestDivideByZero(t *testing.T) {
	for _, zero := range []api.Nat{nil, {}, {0}, {0, 0, 0}} {
		for _, a := range []api.Nat{nil, {0}, {5}, {5, 6, 7}} {
			checkDivision(t, a, zero)
		}
	}
}

func TestGCD(t *testing.T) {
	some := append(scattered(40, 12), nil, nat(0), nat(1), nat(top), nat(0, 1), nat(top, top, top))
	factors := []api.Nat{nat(1), nat(6), nat(0, 1), nat(35, 77, 99)}
	for i, a := range append(edges(), some...) {
		for k, b := range some {
			factor := factors[(i+k)%len(factors)]
			x, y := Mul(a, factor), padded(Mul(b, factor))
			want := new(big.Int).GCD(nil, nil, reference(x), reference(y))
			expect(t, GCD(x, y), want, "gcd", x, y)
		}
	}
	for _, x := range []struct{ a, b, want api.Nat }{
		{nat(12), nat(18), nat(6)}, {nil, nil, nil}, {nat(0), nat(0, 0), nil}, {nat(0), nat(4, 0), nat(4)},
		{nat(0, 8), nil, nat(0, 8)}, {nil, nat(1, 2, 3, 0), nat(1, 2, 3)}, {nat(17), nat(5), nat(1)}, {nat(1), nat(9, 9, 9), nat(1)},
	} {
		if got := GCD(x.a, x.b); !slices.Equal(got, x.want) {
			t.Error(x.a, x.b, got)
		}
	}
}

// TestGCDOfLongNumbers takes numbers with long runs of small quotients and with quotients of many limbs.
func TestGCDOfLongNumbers(t *testing.T) {
	long := scattered(8, 300)
	for _, a := range long {
		for _, b := range long {
			common := new(big.Int).GCD(nil, nil, reference(a), reference(b))
			expect(t, GCD(a, b), common, len(a), len(b))
			expect(t, GCD(Mul(a, b), b), reference(b), len(a), len(b))
		}
	}
	small, great := FromUint(1), FromUint(1)
	for range 5000 {
		small, great = great, Add(small, great)
	}
	expect(t, GCD(small, great), big.NewInt(1), "neighbours of Fibonacci")
	expect(t, GCD(Mul(great, nat(3, 4)), Mul(small, nat(3, 4))), reference(nat(3, 4)), "multiples of neighbours")
}

func TestPower(t *testing.T) {
	for _, n := range append(edges(), scattered(10, 6)...) {
		for k := range 12 {
			got, e := Power(n, k)
			if e != api.OK {
				t.Error(n, k, e)
			}
			expect(t, got, new(big.Int).Exp(reference(n), big.NewInt(int64(k)), nil), n, k)
		}
	}
	huge := make(api.Nat, api.MaxBits/32+1)
	huge[len(huge)-1] = 1
	for _, x := range []struct {
		n    api.Nat
		k    int
		want api.Nat
		e    api.Errno
	}{
		{nat(2), 40, nat(0, 256), api.OK},
		{nil, 0, nat(1), api.OK}, {nat(0, 0), 0, nat(1), api.OK}, {nat(9, 9), 0, nat(1), api.OK}, {huge, 0, nat(1), api.OK},
		{nil, 1, nil, api.OK}, {nat(0, 0), math.MaxInt, nil, api.OK}, {nat(1), math.MaxInt, nat(1), api.OK}, {nat(1, 0), 131072, nat(1), api.OK},
		{nil, -1, nil, api.ErrNaturalExponent}, {nat(1), -1, nil, api.ErrNaturalExponent}, {nat(7), math.MinInt, nil, api.ErrNaturalExponent}, {huge, -1, nil, api.ErrNaturalExponent},
		{huge, 1, nil, api.ErrNaturalSize}, {huge, math.MaxInt, nil, api.ErrNaturalSize}, {nat(2), math.MaxInt, nil, api.ErrNaturalSize}, {nat(0, 1), 4096, nil, api.ErrNaturalSize},
	} {
		got, e := Power(x.n, x.k)
		if e != x.e || !slices.Equal(got, x.want) {
			t.Error(len(x.n), x.k, len(got), e)
		}
	}
}

// TestPowerAtTheLimit checks each greatest exponent whose power has at most api.MaxBits bits, and the next one.
func TestPowerAtTheLimit(t *testing.T) {
	for _, n := range []api.Nat{nat(2), nat(2, 0), nat(3), nat(4), nat(7), nat(8), nat(1000), nat(top), nat(0, 1), nat(top, top, top)} {
		base := reference(n)
		// The power with this exponent is at least 2^api.MaxBits, which has one bit too many.
		enough := (api.MaxBits + base.BitLen() - 2) / (base.BitLen() - 1)
		last := sort.Search(enough, func(k int) bool {
			return new(big.Int).Exp(base, big.NewInt(int64(k)), nil).BitLen() > api.MaxBits
		}) - 1
		got, e := Power(n, last)
		if e != api.OK {
			t.Error(n, last, e)
		}
		expect(t, got, new(big.Int).Exp(base, big.NewInt(int64(last)), nil), n, last)
		if got, e := Power(n, last+1); e != api.ErrNaturalSize || len(got) != 0 {
			t.Error(n, last+1, len(got), e)
		}
	}
	full := make(api.Nat, api.MaxBits/32)
	full[len(full)-1] = 1 << 31
	if got, e := Power(full, 1); e != api.OK || !slices.Equal(got, full) {
		t.Error(len(got), e)
	}
}

// checkRoot checks what defines the root of n.
func checkRoot(t *testing.T, n api.Nat, k int) {
	t.Helper()
	root, exact, e := Root(n, k)
	if e != api.OK {
		t.Error(n, k, e)
	}
	r, degree := reference(root), big.NewInt(int64(k))
	expect(t, root, r, "root", n, k)
	power := new(big.Int).Exp(r, degree, nil)
	above := new(big.Int).Exp(r.Add(r, big.NewInt(1)), degree, nil)
	x := reference(n)
	if power.Cmp(x) > 0 || above.Cmp(x) <= 0 || exact != (power.Cmp(x) == 0) {
		t.Error(n, k, root, exact)
	}
}

func TestRoot(t *testing.T) {
	for _, n := range append(edges(), scattered(30, 40)...) {
		for _, k := range []int{1, 2, 3, 4, 5, 7, 10, 31, 32, 33, 64, 100, 1023, 1024} {
			checkRoot(t, n, k)
			checkRoot(t, padded(n), k)
		}
	}
	for n := range uint32(200) {
		for k := 1; k < 10; k++ {
			checkRoot(t, nat(n), k)
		}
	}
	for _, x := range []struct {
		n     api.Nat
		k     int
		want  api.Nat
		exact bool
	}{
		{nat(17), 2, nat(4), false}, {nat(27), 3, nat(3), true}, {nat(26), 3, nat(2), false}, {nil, 5, nil, true}, {nat(0, 0), 1024, nil, true},
		{nat(1), 1024, nat(1), true}, {nat(2), 1024, nat(1), false}, {nat(9, 0), 1, nat(9), true}, {nat(0, 0, 0, 1), 3, nat(0, 1), true},
	} {
		if got, exact, e := Root(x.n, x.k); e != api.OK || exact != x.exact || !slices.Equal(got, x.want) {
			t.Error(x.n, x.k, got, exact, e)
		}
	}
}

func TestRootOfExactPowersAndTheirNeighbours(t *testing.T) {
	for _, base := range append(scattered(6, 4), nat(2), nat(3), nat(10), nat(top), nat(0, 1)) {
		for _, k := range []int{2, 3, 6, 17, 256, 1024} {
			exact := power(base, k)
			if got, ok, e := Root(exact, k); e != api.OK || !ok || Compare(got, base) != 0 {
				t.Error(base, k, got, ok, e)
			}
			less, _ := Sub(exact, nat(1))
			checkRoot(t, less, k)
			checkRoot(t, Add(exact, nat(1)), k)
		}
	}
}

func TestRootRefusesDegrees(t *testing.T) {
	for _, k := range []int{math.MinInt, -1, 0, 1025, math.MaxInt} {
		for _, n := range []api.Nat{nil, nat(1), nat(5), nat(0, 0, 1)} {
			if got, exact, e := Root(n, k); e != api.ErrNaturalDegree || exact || len(got) != 0 {
				t.Error(n, k, got, exact, e)
			}
		}
	}
}

func TestFormatAndParse(t *testing.T) {
	list := append(edges(), scattered(40, 30)...)
	for i := range 60 {
		tens := power(nat(10), i)
		less, _ := Sub(tens, nat(1))
		list = append(list, tens, less, Add(tens, nat(1)), Mul(tens, nat(7)))
	}
	for _, n := range list {
		want := reference(n).String()
		if got := Format(n); got != want {
			t.Error(n, got, want)
		}
		if got := Format(padded(n)); got != want {
			t.Error(n, got, want)
		}
		got, e := Parse(want)
		if e != api.OK {
			t.Error(want, e)
		}
		expect(t, got, reference(n), want)
	}
	if got := Format(nat(0, 1)); got != "4294967296" {
		t.Error(got)
	}
}

func TestParseRefuses(t *testing.T) {
	longest := strings.Repeat("9", api.MaxDigits)
	if got, e := Parse(longest); e != api.OK || Format(got) != longest {
		t.Error(len(got), e)
	}
	for _, s := range []string{longest + "9", "1" + strings.Repeat("0", api.MaxDigits), strings.Repeat(longest, 3)} {
		if got, e := Parse(s); e != api.ErrNaturalDigits || len(got) != 0 {
			t.Error(len(s), len(got), e)
		}
	}
	for _, s := range []string{
		"", "00", "01", "007", "-0", "-1", "+1", " 1", "1 ", "1\n", "1 2", "1a2", "a", "1_0", "0x1", "1.0", "1e3", "/", ":", "1/", "1:",
		"\x00", "1\x00", "１", "٣", "1\xff", longest + "x", "0" + longest, longest + longest + " ",
	} {
		if got, e := Parse(s); e != api.ErrNaturalForm || len(got) != 0 {
			t.Error(s, got, e)
		}
	}
}

// lent returns n with spare capacity that must not be written.
func lent(n api.Nat) api.Nat {
	memory := append(slices.Clone(n), 11, 12, 13, 14, 15, 16, 17, 18)
	return memory[:len(n)]
}

// overwrite changes all the memory of a result, so that what shares it changes, too.
func overwrite(results ...api.Nat) {
	for _, n := range results {
		n = n[:cap(n)]
		for i := range n {
			n[i] = ^n[i]
		}
	}
}

func TestArgumentsAreNeitherChangedNorShared(t *testing.T) {
	calls := map[string]func(a, b api.Nat){
		"Trim":    func(a, b api.Nat) { overwrite(Trim(a)) },
		"Uint":    func(a, b api.Nat) { Uint(a) },
		"Compare": func(a, b api.Nat) { Compare(a, b) },
		"Bits":    func(a, b api.Nat) { Bits(a) },
		"Add":     func(a, b api.Nat) { overwrite(Add(a, b)) },
		"Sub":     func(a, b api.Nat) { n, _ := Sub(a, b); overwrite(n) },
		"Mul":     func(a, b api.Nat) { overwrite(Mul(a, b)) },
		"Divide":  func(a, b api.Nat) { q, r, _ := Divide(a, b); overwrite(q, r) },
		"GCD":     func(a, b api.Nat) { overwrite(GCD(a, b)) },
		"Power":   func(a, b api.Nat) { n, _ := Power(a, len(b)); overwrite(n) },
		"Root":    func(a, b api.Nat) { n, _, _ := Root(a, len(b)+1); overwrite(n) },
		"Format":  func(a, b api.Nat) { Format(a) },
	}
	list := []api.Nat{nil, nat(0, 0), nat(1), nat(1, 0), nat(5), nat(6, 7, 0), nat(8, 9, 10, 11), nat(1, 2, 3, 4, 5)}
	for name, call := range calls {
		for _, x := range list {
			for _, y := range list {
				a, b := lent(x), lent(y)
				call(a, b)
				if !slices.Equal(a[:cap(a)], lent(x)[:cap(a)]) || !slices.Equal(b[:cap(b)], lent(y)[:cap(b)]) {
					t.Error(name, x, y, "became", a[:cap(a)], b[:cap(b)])
				}
				same := lent(x)
				call(same, same)
				if !slices.Equal(same[:cap(same)], lent(x)[:cap(same)]) {
					t.Error(name, x, "twice became", same[:cap(same)])
				}
			}
		}
	}
}

func TestQuotientAndRemainderShareNoMemory(t *testing.T) {
	for _, x := range [][2]api.Nat{{nat(9), nat(4)}, {nat(9, 8, 7), nat(4)}, {nat(9, 8, 7, 6), nat(4, 3)}, {nat(4), nat(9, 9)}} {
		q, r, _ := Divide(x[0], x[1])
		want := slices.Clone(r)
		overwrite(q)
		if !slices.Equal(r, want) {
			t.Error(x, r, want)
		}
	}
}

func TestConsequences(t *testing.T) {
	list := append(scattered(8, 7), nil, nat(1), nat(top, top))
	for _, a := range list {
		for _, b := range list {
			if back, ok := Sub(Add(a, b), b); !ok || Compare(back, a) != 0 {
				t.Error("sub of add", a, b, back)
			}
			for _, c := range list {
				if !slices.Equal(Add(Add(a, b), c), Add(a, Add(b, c))) || !slices.Equal(Mul(Mul(a, b), c), Mul(a, Mul(b, c))) {
					t.Error("not associative", a, b, c)
				}
				if !slices.Equal(Mul(a, Add(b, c)), Add(Mul(a, b), Mul(a, c))) {
					t.Error("not distributive", a, b, c)
				}
			}
		}
	}
}
