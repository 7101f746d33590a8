package linear

import (
	"testing"

	"priceoffice/api"
	"priceoffice/rational"
)

// determinant expands along the first row. The tests compare the package with it, since it needs no elimination.
func determinant(a [][]api.Ratio) api.Ratio {
	if len(a) == 0 {
		return whole(1)
	}
	total := api.Ratio{}
	for k := range a[0] {
		if rational.Sign(a[0][k]) == 0 {
			continue
		}
		term := rational.Mul(a[0][k], determinant(minor(a, k)))
		if k%2 == 1 {
			term = rational.Negate(term)
		}
		total = rational.Add(total, term)
	}
	return total
}

// minor returns a without its first row and its column k.
func minor(a [][]api.Ratio, k int) [][]api.Ratio {
	var out [][]api.Ratio
	for _, list := range a[1:] {
		out = append(out, append(append([]api.Ratio(nil), list[:k]...), list[k+1:]...))
	}
	return out
}

// replaced returns a with b as its column k.
func replaced(a [][]api.Ratio, b []api.Ratio, k int) [][]api.Ratio {
	out := make([][]api.Ratio, len(a))
	for i := range a {
		out[i] = append([]api.Ratio(nil), a[i]...)
		out[i][k] = b[i]
	}
	return out
}

// checkSolve compares Solve with Cramer's rule.
func checkSolve(t *testing.T, a [][]api.Ratio, b []api.Ratio) {
	t.Helper()
	own := determinant(a)
	got, e := Solve(a, b)
	if rational.Sign(own) == 0 {
		if e != api.ErrLinearSingular || len(got) != 0 {
			t.Error(a, b, "is singular", got, e)
		}
		return
	}
	want := make([]api.Ratio, len(a))
	for k := range a {
		want[k], _ = rational.Quo(determinant(replaced(a, b, k)), own)
	}
	if e != api.OK || !agreeAll(got, want) {
		t.Error(a, b, got, want, e)
	}
}

// each calls visit with every list of so many integers from low to high.
func each(size int, low, high int64, visit func(list []int64)) {
	list := make([]int64, size)
	var fill func(place int)
	fill = func(place int) {
		if place == size {
			visit(list)
			return
		}
		for n := low; n <= high; n++ {
			list[place] = n
			fill(place + 1)
		}
	}
	fill(0)
}

func TestSolve(t *testing.T) {
	for i, x := range []struct {
		a       [][]api.Ratio
		b, want []api.Ratio
		e       api.Errno
	}{
		{rows(row(1, 2), row(3, 4)), row(5, 6), []api.Ratio{whole(-4), fraction(9, 2)}, api.OK},
		{rows(row(0, 2), row(3, 0)), row(1, 1), []api.Ratio{fraction(1, 3), fraction(1, 2)}, api.OK},
		{rows(row(0, 0, 1), row(1, 0, 0), row(0, 1, 0)), row(5, 6, 7), row(6, 7, 5), api.OK},
		{rows(row(2, 1, 1), row(1, 3, 2), row(1, 0, 0)), row(4, 5, 6), row(6, 15, -23), api.OK},
		{rows(row(7)), row(0), row(0), api.OK},
		{rows([]api.Ratio{fraction(-2, 3)}), row(4), row(-6), api.OK},
		{rows(row(1, 2), row(2, 4)), row(1, 2), nil, api.ErrLinearSingular}, // many solutions
		{rows(row(1, 2), row(2, 4)), row(1, 3), nil, api.ErrLinearSingular}, // none
		{rows(row(0)), row(0), nil, api.ErrLinearSingular},
		{rows(row(0)), row(1), nil, api.ErrLinearSingular},
		{rows(row(0, 0), row(0, 0)), row(0, 0), nil, api.ErrLinearSingular},
		{rows(row(0, 1), row(0, 2)), row(1, 2), nil, api.ErrLinearSingular},
		{rows(row(1, 0), row(1, 0)), row(1, 2), nil, api.ErrLinearSingular},
		{rows(row(1, 1, 0), row(0, 1, 1), row(1, 2, 1)), row(1, 1, 2), nil, api.ErrLinearSingular},
		{rows(row(1, 1, 0), row(0, 1, 1), row(1, 2, 1)), row(1, 1, 3), nil, api.ErrLinearSingular},
	} {
		for _, a := range [][][]api.Ratio{x.a, looseRows(x.a)} {
			for _, b := range [][]api.Ratio{x.b, looseRow(x.b)} {
				if got, e := Solve(a, b); e != x.e || !agreeAll(got, x.want) {
					t.Error(i, got, e)
				}
			}
		}
	}
}

func TestSolveAllSmallSystems(t *testing.T) {
	each(6, -1, 2, func(n []int64) {
		checkSolve(t, rows(row(n[0], n[1]), row(n[2], n[3])), row(n[4], n[5]))
	})
	each(9, -1, 1, func(n []int64) {
		checkSolve(t, rows(row(n[0], n[1], n[2]), row(n[3], n[4], n[5]), row(n[6], n[7], n[8])), row(1, -2, 3))
	})
}

func TestSolveScatteredSystems(t *testing.T) {
	for size := 1; size <= 6; size++ {
		for shift := range 12 {
			a := scatteredRows(size+shift, size)[shift:]
			checkSolve(t, a, scatteredRows(1, size)[0])
		}
	}
}

// TestSolveTheLargestSystem has the Hilbert matrix, whose solutions are long numbers, and the same with two equal rows.
func TestSolveTheLargestSystem(t *testing.T) {
	a := make([][]api.Ratio, api.MaxColumns)
	for i := range a {
		for k := range api.MaxColumns {
			a[i] = append(a[i], fraction(1, int64(i+k+1)))
		}
	}
	x := scatteredRows(1, api.MaxColumns)[0]
	b, _ := Apply(a, x)
	if got, e := Solve(a, b); e != api.OK || !agreeAll(got, x) {
		t.Error(got, e)
	}
	if got, e := LeastSquares(a, b); e != api.OK || !agreeAll(got, x) {
		t.Error(got, e)
	}
	a[15], b[15] = a[3], b[3]
	if got, e := Solve(a, b); e != api.ErrLinearSingular || len(got) != 0 {
		t.Error(got, e)
	}
}
