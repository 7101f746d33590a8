package linear

import (
	"slices"
	"testing"

	"priceoffice/api"
	"priceoffice/rational"
)

// minorRank returns the size of the greatest square part of a whose determinant is not 0, of the columns before width.
func minorRank(a [][]api.Ratio, width int) int {
	rank := 0
	for picked := range 1 << len(a) {
		for across := range 1 << width {
			part := part(a, picked, across)
			if len(part) > rank && len(part) == len(part[0]) && rational.Sign(determinant(part)) != 0 {
				rank = len(part)
			}
		}
	}
	return rank
}

// part returns the rows and the columns of a whose bits are set.
func part(a [][]api.Ratio, picked, across int) [][]api.Ratio {
	var out [][]api.Ratio
	for i, list := range a {
		if picked>>i&1 == 0 {
			continue
		}
		var line []api.Ratio
		for k, x := range list {
			if across>>k&1 == 1 {
				line = append(line, x)
			}
		}
		out = append(out, line)
	}
	return out
}

// independentByRank returns the columns with which the rank of the columns so far grows.
func independentByRank(a [][]api.Ratio) []int {
	var list []int
	for k := range a[0] {
		if minorRank(a, k+1) > minorRank(a, k) {
			list = append(list, k)
		}
	}
	return list
}

// checkRank checks Independent and Rank against want, and Null against its definition.
func checkRank(t *testing.T, a [][]api.Ratio, want []int) {
	t.Helper()
	if list, e := Independent(a); e != api.OK || !slices.Equal(list, want) {
		t.Error(a, "Independent", list, want, e)
	}
	if n, e := Rank(a); e != api.OK || n != len(want) {
		t.Error(a, "Rank", n, want, e)
	}
	checkNull(t, a, want)
}

func checkNull(t *testing.T, a [][]api.Ratio, independent []int) {
	t.Helper()
	null, e := Null(a)
	if e != api.OK || len(null) != len(a[0])-len(independent) {
		t.Error(a, "Null", null, e)
		return
	}
	for own := range a[0] {
		if slices.Contains(independent, own) {
			continue
		}
		v := null[0]
		null = null[1:]
		if got, e := Apply(a, v); e != api.OK || !agreeAll(got, make([]api.Ratio, len(a))) {
			t.Error(a, "Null", v, "gives", got, e)
		}
		for k, x := range v {
			switch {
			case k == own:
				if !agree(x, whole(1)) {
					t.Error(a, v, "is not 1 at", k)
				}
			case !slices.Contains(independent, k) || k > own:
				if !agree(x, whole(0)) {
					t.Error(a, v, "is not 0 at", k)
				}
			case !agree(x, x):
				t.Error(a, v, "is not canonical at", k)
			}
		}
	}
}

func TestNullIndependentAndRank(t *testing.T) {
	for i, x := range []struct {
		a    [][]api.Ratio
		list []int
		null [][]api.Ratio
	}{
		{rows(row(1, 2, 0), row(2, 4, 1)), []int{0, 2}, rows(row(-2, 1, 0))},
		{rows(row(0)), nil, rows(row(1))},
		{rows(row(-5)), []int{0}, nil},
		{rows(row(0, 0)), nil, rows(row(1, 0), row(0, 1))},
		{rows(row(0, 0), row(0, 0), row(0, 0)), nil, rows(row(1, 0), row(0, 1))},
		{rows(row(1, 0), row(0, 1)), []int{0, 1}, nil},
		{rows(row(0, 1), row(1, 0)), []int{0, 1}, nil},
		{rows(row(0, 3, 6, 1)), []int{1}, rows(row(1, 0, 0, 0), row(0, -2, 1, 0), []api.Ratio{{}, fraction(-1, 3), {}, whole(1)})},
		{rows(row(1, 1, 2), row(1, 2, 3), row(2, 3, 5)), []int{0, 1}, rows(row(-1, -1, 1))},
		{rows(row(1, 2), row(1, 3), row(4, 4)), []int{0, 1}, nil},
		{rows(row(0, 0, 1), row(0, 2, 1), row(0, 2, 3)), []int{1, 2}, rows(row(1, 0, 0))},
		{rows(row(0, 0, 0, 2), row(0, 1, 1, 5), row(0, 2, 2, 0)), []int{1, 3}, rows(row(1, 0, 0, 0), row(0, -1, 1, 0))},
		{rows(row(2, 4, 1, 0, 3), row(1, 2, 0, 1, 0)), []int{0, 2}, rows(row(-2, 1, 0, 0, 0), row(-1, 0, 2, 1, 0), row(0, 0, -3, 0, 1))},
	} {
		for _, a := range [][][]api.Ratio{x.a, looseRows(x.a)} {
			checkRank(t, a, x.list)
			if null, e := Null(a); e != api.OK || !slices.EqualFunc(null, x.null, agreeAll) {
				t.Error(i, null, e)
			}
		}
	}
}

func TestRankOfAllSmallMatrices(t *testing.T) {
	each(6, -1, 1, func(n []int64) {
		for _, a := range [][][]api.Ratio{
			rows(row(n[0], n[1], n[2]), row(n[3], n[4], n[5])), rows(row(n[0], n[1]), row(n[2], n[3]), row(n[4], n[5])),
			rows(row(n...)), rows(row(n[0], n[1], n[2]), row(n[3], n[4], n[5]), row(1, 1, 0), row(0, 2, 1)),
		} {
			checkRank(t, a, independentByRank(a))
		}
	})
	each(8, 0, 1, func(n []int64) {
		a := rows(row(n[0], n[1], n[2], n[3]), row(n[4], n[5], n[6], n[7]), row(1, -1, 2, 0))
		checkRank(t, a, independentByRank(a))
	})
}

// TestRankOfLargeMatrices has matrices whose independent columns are known: each of them has its first number that is
// not 0 in a row of its own, and between them are sums of multiples of those before.
func TestRankOfLargeMatrices(t *testing.T) {
	for _, independent := range [][]int{nil, {0}, {3, 4, 9}, {0, 1, 2, 3, 4, 5, 6, 7}, {1, 3, 5, 7, 9, 11, 13, 15}, {15}, {0, 15}} {
		next := scattered(uint64(len(independent)))
		var columns [][]api.Ratio
		for k := range api.MaxColumns {
			list := make([]api.Ratio, api.MaxRows)
			for _, own := range independent {
				if own < k {
					addMultiple(list, next(), columns[own])
				}
			}
			if slices.Contains(independent, k) {
				first := 40 - 2*k
				addMultiple(list[first:], fraction(3, int64(k+1)), scatteredNumbers(len(list)-first))
			}
			columns = append(columns, list)
		}
		checkRank(t, transposed(columns), independent)
	}
}

// addMultiple adds factor times list to target.
func addMultiple(target []api.Ratio, factor api.Ratio, list []api.Ratio) {
	for i := range target {
		target[i] = rational.Add(target[i], rational.Mul(factor, list[i]))
	}
}

// scatteredNumbers returns numbers of which the first one is 1.
func scatteredNumbers(size int) []api.Ratio {
	list := scatteredRows(1, size)[0]
	list[0] = whole(1)
	return list
}
