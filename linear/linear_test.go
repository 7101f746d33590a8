package linear

import (
	"math"
	"slices"
	"testing"

	"priceoffice/api"
	"priceoffice/rational"
)

func whole(n int64) api.Ratio { return rational.FromInt(n) }

func fraction(num, den int64) api.Ratio {
	x, _ := rational.Fraction(num, den)
	return x
}

// row is a list of integers.
func row(list ...int64) []api.Ratio {
	out := make([]api.Ratio, len(list))
	for i, n := range list {
		out[i] = whole(n)
	}
	return out
}

func rows(list ...[]api.Ratio) [][]api.Ratio { return list }

// agree reports whether got is the canonical form of want.
func agree(got, want api.Ratio) bool {
	want = rational.Normalize(want)
	return got.Neg == want.Neg && slices.Equal(got.Num, want.Num) && slices.Equal(got.Den, want.Den)
}

func agreeAll(got, want []api.Ratio) bool { return slices.EqualFunc(got, want, agree) }

// loose returns x in a form that is not canonical: both parts times 2^32, with high zero limbs, and 0 with a sign.
func loose(x api.Ratio) api.Ratio {
	x = rational.Normalize(x)
	if len(x.Den) == 0 {
		x.Den = api.Nat{1}
	}
	times := func(n api.Nat) api.Nat { return append(append(api.Nat{0}, n...), 0, 0) }
	return api.Ratio{Neg: x.Neg || len(x.Num) == 0, Num: times(x.Num), Den: times(x.Den)}
}

func looseRow(list []api.Ratio) []api.Ratio {
	out := make([]api.Ratio, len(list))
	for i, x := range list {
		out[i] = loose(x)
	}
	return out
}

func looseRows(a [][]api.Ratio) [][]api.Ratio {
	out := make([][]api.Ratio, len(a))
	for i, list := range a {
		out[i] = looseRow(list)
	}
	return out
}

// scattered returns a source of fractions, the same ones in each run; every third one is 0.
func scattered(state uint64) func() api.Ratio {
	next := func() int64 {
		state = state*6364136223846793005 + 1442695040888963407
		return int64(state >> 40)
	}
	return func() api.Ratio {
		if next()%3 == 0 {
			return api.Ratio{}
		}
		return fraction(next()%41-20, next()%7+1)
	}
}

func scatteredRows(height, width int) [][]api.Ratio {
	next := scattered(uint64(100*height + width))
	a := make([][]api.Ratio, height)
	for i := range a {
		a[i] = make([]api.Ratio, width)
		for k := range a[i] {
			a[i][k] = next()
		}
	}
	return a
}

// column returns the numbers of a at one place of each row.
func column(a [][]api.Ratio, k int) []api.Ratio {
	var out []api.Ratio
	for _, list := range a {
		out = append(out, list[k])
	}
	return out
}

// dot returns the sum of the products of the numbers of two lists.
func dot(x, y []api.Ratio) api.Ratio {
	total := api.Ratio{}
	for i := range x {
		total = rational.Add(total, rational.Mul(x[i], y[i]))
	}
	return total
}

func TestApply(t *testing.T) {
	for i, x := range []struct {
		a       [][]api.Ratio
		x, want []api.Ratio
	}{
		{rows(row(1, 2), row(3, 4)), row(1, 1), row(3, 7)},
		{rows(row(1, 2), row(3, 4)), row(-1, 2), row(3, 5)},
		{rows(row(1, 2, 3)), row(1, -1, 0), row(-1)},
		{rows(row(1), row(2), row(-3)), row(5), row(5, 10, -15)},
		{rows(row(0), row(0)), row(5), row(0, 0)},
		{rows(row(6, 6)), []api.Ratio{fraction(1, 2), fraction(-1, 3)}, row(1)},
		{rows([]api.Ratio{fraction(1, 2), fraction(1, 3)}), row(1, 1), []api.Ratio{fraction(5, 6)}},
		{rows([]api.Ratio{{Num: api.Nat{7, 0}, Den: api.Nat{0, 0}}}), []api.Ratio{{Neg: true, Num: api.Nat{0, 1}}}, []api.Ratio{{Neg: true, Num: api.Nat{0, 7}}}},
	} {
		for _, a := range [][][]api.Ratio{x.a, looseRows(x.a)} {
			for _, v := range [][]api.Ratio{x.x, looseRow(x.x)} {
				if got, e := Apply(a, v); e != api.OK || !agreeAll(got, x.want) {
					t.Error(i, got, e)
				}
			}
		}
	}
}

func TestApplyOfAllSizes(t *testing.T) {
	for _, height := range []int{1, 2, 15, 16, 17, 63, 64} {
		for width := 1; width <= api.MaxColumns; width++ {
			a, x := scatteredRows(height, width), scatteredRows(1, width)[0]
			got, e := Apply(a, x)
			if e != api.OK || len(got) != height {
				t.Fatal(height, width, len(got), e)
			}
			for i := range got {
				if !agree(got[i], dot(a[i], x)) {
					t.Error(height, width, i, got[i])
				}
			}
		}
	}
}

// expectShape checks that every function that takes a refuses it.
func expectShape(t *testing.T, a [][]api.Ratio, x, b []api.Ratio) {
	t.Helper()
	if got, e := Apply(a, x); e != api.ErrLinearShape || len(got) != 0 {
		t.Error("Apply", len(a), len(x), len(got), e)
	}
	if got, e := Solve(a, b); e != api.ErrLinearShape || len(got) != 0 {
		t.Error("Solve", len(a), len(b), len(got), e)
	}
	if got, e := LeastSquares(a, b); e != api.ErrLinearShape || len(got) != 0 {
		t.Error("LeastSquares", len(a), len(b), len(got), e)
	}
}

// TestWhatIsNoMatrix has lists of rows that are no matrix, with vectors of each length that may seem to fit.
func TestWhatIsNoMatrix(t *testing.T) {
	wide, deep, both := scatteredRows(17, 17), scatteredRows(65, 1), scatteredRows(65, 17)
	for _, a := range [][][]api.Ratio{
		nil, {}, {nil}, {{}}, {nil, nil}, rows(row(1), nil), rows(nil, row(1)), rows(row(1, 2), row(3)), rows(row(1), row(2, 3)), rows(row(1, 2), row(3, 4), row(5, 6, 7)),
		rows(row(1, 0), row(0)), wide, wide[:1], wide[:16], scatteredRows(64, 17), deep, scatteredRows(65, 16), both, scatteredRows(200, 3), scatteredRows(1, 200),
		append(scatteredRows(15, 16), make([]api.Ratio, 15)), append(scatteredRows(15, 16), make([]api.Ratio, 17)), append(scatteredRows(63, 1), nil),
	} {
		width := 0
		if len(a) > 0 {
			width = len(a[0])
		}
		expectShape(t, a, make([]api.Ratio, width), make([]api.Ratio, len(a)))
		expectShape(t, a, nil, nil)
		if n, e := Rank(a); n != 0 || e != api.ErrLinearShape {
			t.Error("Rank", len(a), width, n, e)
		}
		if list, e := Null(a); len(list) != 0 || e != api.ErrLinearShape {
			t.Error("Null", len(a), width, list, e)
		}
		if list, e := Independent(a); len(list) != 0 || e != api.ErrLinearShape {
			t.Error("Independent", len(a), width, list, e)
		}
	}
}

func TestVectorsThatDoNotFit(t *testing.T) {
	for _, size := range [][2]int{{1, 1}, {2, 2}, {3, 2}, {2, 3}, {16, 16}, {64, 16}} {
		a := scatteredRows(size[0], size[1])
		for length := range 70 {
			x := make([]api.Ratio, length)
			if _, e := Apply(a, x); (e == api.OK) != (length == size[1]) {
				t.Error("Apply", size, length, e)
			}
			if _, e := LeastSquares(a, x); (e != api.ErrLinearShape) != (length == size[0]) {
				t.Error("LeastSquares", size, length, e)
			}
			if _, e := Solve(a, x); (e != api.ErrLinearShape) != (length == size[0] && size[0] == size[1]) {
				t.Error("Solve", size, length, e)
			}
		}
	}
	// The shape is the first error: these matrices are singular, too.
	expectShape(t, rows(row(0, 0), row(0, 0)), row(1), row(1, 2, 3))
	if got, e := Solve(rows(row(1, 2)), row(1, 2)); e != api.ErrLinearShape || len(got) != 0 {
		t.Error(got, e)
	}
}

func TestSizesThatAreMatrices(t *testing.T) {
	for _, size := range [][2]int{{1, 1}, {1, 16}, {64, 1}, {64, 16}, {16, 16}} {
		a := make([][]api.Ratio, size[0])
		for i := range a {
			a[i] = make([]api.Ratio, size[1])
			for k := range a[i] {
				a[i][k] = whole(int64((i + k + 1) % 5))
			}
		}
		want := min(5, size[0], size[1])
		if n, e := Rank(a); e != api.OK || n != want {
			t.Error(size, n, e)
		}
		if list, e := Null(a); e != api.OK || len(list) != size[1]-want {
			t.Error(size, len(list), e)
		}
	}
}

func TestLongNumbers(t *testing.T) {
	long := api.Ratio{Num: api.Nat{0, 0, 0, 1}, Den: api.Nat{3}}
	short := api.Ratio{Num: api.Nat{math.MaxUint32, math.MaxUint32}}
	a, x := rows([]api.Ratio{long, short}, []api.Ratio{short, long}), []api.Ratio{fraction(-2, 7), long}
	b, _ := Apply(a, x)
	if got, e := Solve(a, b); e != api.OK || !agreeAll(got, x) {
		t.Error(got, e)
	}
	if got, e := LeastSquares(looseRows(a), looseRow(b)); e != api.OK || !agreeAll(got, x) {
		t.Error(got, e)
	}
	twice := rows([]api.Ratio{long, rational.Mul(long, short)}, []api.Ratio{short, rational.Mul(short, short)})
	want := rows([]api.Ratio{rational.Negate(short), whole(1)})
	if got, e := Null(twice); e != api.OK || !slices.EqualFunc(got, want, agreeAll) {
		t.Error(got, e)
	}
}
