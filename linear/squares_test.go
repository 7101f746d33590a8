package linear

import (
	"testing"

	"priceoffice/api"
	"priceoffice/rational"
)

// residual returns b less Apply(a, x).
func residual(a [][]api.Ratio, b, x []api.Ratio) []api.Ratio {
	out := make([]api.Ratio, len(b))
	for i := range b {
		out[i] = rational.Sub(b[i], dot(a[i], x))
	}
	return out
}

// checkLeast checks that the residual is orthogonal to each column, and that each small change of x adds to the squares.
func checkLeast(t *testing.T, a [][]api.Ratio, b []api.Ratio) {
	t.Helper()
	x, e := LeastSquares(a, b)
	if rank, _ := Rank(a); rank < len(a[0]) {
		if e != api.ErrLinearRank || len(x) != 0 {
			t.Error(a, b, x, e)
		}
		return
	}
	if e != api.OK || !agreeAll(x, x) || len(x) != len(a[0]) {
		t.Error(a, b, x, e)
		return
	}
	rest := residual(a, b, x)
	least := dot(rest, rest)
	for k := range a[0] {
		if rational.Sign(dot(column(a, k), rest)) != 0 {
			t.Error(a, b, x, "is not orthogonal to column", k)
		}
		for _, step := range []api.Ratio{fraction(1, 1000), fraction(-1, 1000)} {
			other := append([]api.Ratio(nil), x...)
			other[k] = rational.Add(x[k], step)
			rest := residual(a, b, other)
			if rational.Compare(dot(rest, rest), least) <= 0 {
				t.Error(a, b, x, "is not least at", k)
			}
		}
	}
}

func TestLeastSquares(t *testing.T) {
	for i, x := range []struct {
		a       [][]api.Ratio
		b, want []api.Ratio
		e       api.Errno
	}{
		{rows(row(1), row(1), row(1)), row(1, 2, 6), row(3), api.OK},
		{rows(row(1, 1), row(1, 2), row(1, 3)), row(3, 5, 7), row(1, 2), api.OK},
		{rows(row(1, 1), row(1, 2), row(1, 3)), row(1, 3, 2), []api.Ratio{whole(1), fraction(1, 2)}, api.OK},
		{rows(row(2)), row(5), []api.Ratio{fraction(5, 2)}, api.OK},
		{rows(row(2)), row(0), row(0), api.OK},
		{rows(row(0), row(-3)), row(9, 1), []api.Ratio{fraction(-1, 3)}, api.OK},
		{rows(row(1, 2), row(3, 4)), row(5, 6), []api.Ratio{whole(-4), fraction(9, 2)}, api.OK},
		{rows(row(0, 1), row(0, 2), row(1, 0)), row(5, 5, 4), row(4, 3), api.OK},
		{rows(row(1, 1), row(1, 1)), row(0, 0), nil, api.ErrLinearRank},
		{rows(row(2, 0)), row(1), nil, api.ErrLinearRank},
		{rows(row(0), row(0)), row(1, 1), nil, api.ErrLinearRank},
		{rows(row(0)), row(0), nil, api.ErrLinearRank},
		{rows(row(1, 2, 3), row(4, 5, 7)), row(1, 1), nil, api.ErrLinearRank},
		{rows(row(1, 2, 3), row(4, 5, 9), row(0, 1, 1), row(7, 0, 7)), row(1, 2, 3, 4), nil, api.ErrLinearRank},
	} {
		for _, a := range [][][]api.Ratio{x.a, looseRows(x.a)} {
			for _, b := range [][]api.Ratio{x.b, looseRow(x.b)} {
				if got, e := LeastSquares(a, b); e != x.e || !agreeAll(got, x.want) {
					t.Error(i, got, e)
				}
			}
		}
	}
}

func TestLeastSquaresOfAllSmallMatrices(t *testing.T) {
	each(6, -1, 1, func(n []int64) {
		checkLeast(t, rows(row(n[0], n[1]), row(n[2], n[3]), row(n[4], n[5])), row(3, -1, 4))
		checkLeast(t, rows(row(n[0], n[1], n[2]), row(n[3], n[4], n[5]), row(1, 0, 1), row(2, 1, 0)), row(1, 5, -9, 2))
		checkLeast(t, rows(row(n[0], n[1], n[2]), row(n[3], n[4], n[5])), row(7, 1))
	})
}

func TestLeastSquaresOfScatteredMatrices(t *testing.T) {
	for _, size := range [][2]int{{1, 1}, {5, 1}, {64, 1}, {4, 3}, {9, 4}, {20, 7}, {16, 16}, {64, 16}, {15, 16}} {
		a := scatteredRows(size[0], size[1])
		checkLeast(t, a, scatteredRows(1, size[0])[0])
	}
}

// TestLeastSquaresOfAnExactFit compares with the solution where there is one, with more rows than columns.
func TestLeastSquaresOfAnExactFit(t *testing.T) {
	for _, size := range [][2]int{{2, 2}, {7, 3}, {30, 9}, {64, 16}} {
		a, x := scatteredRows(size[0], size[1]), scatteredRows(1, size[1])[0]
		b, _ := Apply(a, x)
		if n, _ := Rank(a); n != size[1] {
			t.Error(size, "has the rank", n)
		}
		if got, e := LeastSquares(a, b); e != api.OK || !agreeAll(got, x) {
			t.Error(size, got, e)
		}
	}
}
