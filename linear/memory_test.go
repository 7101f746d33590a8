package linear

import (
	"slices"
	"testing"

	"priceoffice/api"
)

// lent returns n with spare capacity that must not be written.
func lent(n api.Nat) api.Nat {
	memory := append(slices.Clone(n), 11, 12, 13, 14, 15, 16, 17, 18)
	return memory[:len(n)]
}

func lentRow(list []api.Ratio) []api.Ratio {
	var memory []api.Ratio
	for _, x := range list {
		memory = append(memory, api.Ratio{Neg: x.Neg, Num: lent(x.Num), Den: lent(x.Den)})
	}
	return append(memory, whole(21), fraction(22, 23))[:len(list)]
}

func lentRows(a [][]api.Ratio) [][]api.Ratio {
	var memory [][]api.Ratio
	for _, list := range a {
		memory = append(memory, lentRow(list))
	}
	return append(memory, row(31), row(32, 33))[:len(a)]
}

// sameNumber reports whether two numbers agree in all their limbs, spare capacity included.
func sameNumber(x, y api.Ratio) bool {
	same := func(a, b api.Nat) bool { return slices.Equal(a[:cap(a)], b[:cap(b)]) }
	return x.Neg == y.Neg && same(x.Num, y.Num) && same(x.Den, y.Den)
}

// sameRow compares two lent rows, with the two numbers behind them.
func sameRow(x, y []api.Ratio) bool {
	return slices.EqualFunc(x[:len(x)+2], y[:len(y)+2], sameNumber)
}

// sameRows compares two lists of lent rows, with the two rows behind them.
func sameRows(x, y [][]api.Ratio) bool {
	return slices.EqualFunc(x, y, sameRow) && slices.EqualFunc(x[len(x):len(x)+2], y[len(y):len(y)+2], agreeAll)
}

// overwrite changes all the memory of a result, part by part; no other part may change with it.
func overwrite(t *testing.T, name string, result [][]api.Ratio) {
	t.Helper()
	var limbs []api.Nat
	for _, list := range result {
		for _, x := range list[:cap(list)] {
			limbs = append(limbs, x.Num[:cap(x.Num)], x.Den[:cap(x.Den)])
		}
	}
	for i, n := range limbs {
		others := func() api.Nat { return slices.Concat(slices.Concat(limbs[:i]...), slices.Concat(limbs[i+1:]...)) }
		before := others()
		for k := range n {
			n[k] = ^n[k]
		}
		if !slices.Equal(others(), before) {
			t.Error(name, "shares the memory of numbers within its result")
		}
	}
	for i, list := range result {
		others := func() []api.Ratio { return slices.Concat(slices.Concat(result[:i]...), slices.Concat(result[i+1:]...)) }
		before := others()
		clear(list[:cap(list)])
		if !slices.EqualFunc(others(), before, sameNumber) {
			t.Error(name, "shares the memory of lists within its result")
		}
	}
}

func TestArgumentsAreNeitherChangedNorShared(t *testing.T) {
	calls := map[string]func(a [][]api.Ratio, b []api.Ratio) [][]api.Ratio{
		"Apply":        func(a [][]api.Ratio, b []api.Ratio) [][]api.Ratio { x, _ := Apply(a, b); return rows(x) },
		"Solve":        func(a [][]api.Ratio, b []api.Ratio) [][]api.Ratio { x, _ := Solve(a, b); return rows(x) },
		"LeastSquares": func(a [][]api.Ratio, b []api.Ratio) [][]api.Ratio { x, _ := LeastSquares(a, b); return rows(x) },
		"Null":         func(a [][]api.Ratio, b []api.Ratio) [][]api.Ratio { list, _ := Null(a); return list },
		"Independent":  func(a [][]api.Ratio, b []api.Ratio) [][]api.Ratio { Independent(a); return nil },
		"Rank":         func(a [][]api.Ratio, b []api.Ratio) [][]api.Ratio { Rank(a); return nil },
	}
	for name, call := range calls {
		for i, a := range [][][]api.Ratio{
			rows(row(7)), rows(row(0)), rows(row(1, 2), row(3, 4)), rows(row(0, 1), row(1, 0)), rows(row(1, 0), row(0, 1)), rows(row(1, 2), row(2, 4)),
			rows(row(2, 4, 1, 0, 3), row(1, 2, 0, 1, 0)), rows(row(1, 1), row(1, 2), row(1, 3)), looseRows(rows(row(1, 2, 3), row(4, 5, 6), row(7, 8, 10))),
			scatteredRows(5, 5), scatteredRows(3, 6), scatteredRows(6, 3),
		} {
			for _, length := range []int{len(a), len(a[0])} {
				b := scatteredRows(1, length)[0]
				gotA, gotB := lentRows(a), lentRow(b)
				overwrite(t, name, call(gotA, gotB))
				if !sameRows(gotA, lentRows(a)) || !sameRow(gotB, lentRow(b)) {
					t.Error(name, i, "became", gotA, gotB)
				}
			}
			// The vector may be one of the rows, and the rows may be one list.
			shared := lentRow(a[0])
			list := slices.Repeat([][]api.Ratio{shared}, len(shared))
			overwrite(t, name, call(list, shared))
			if !sameRow(shared, lentRow(a[0])) {
				t.Error(name, i, "shared became", shared)
			}
		}
	}
}
