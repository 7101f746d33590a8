package radical

import (
	"slices"
	"testing"

	"priceoffice/api"
)

// lent returns n with spare capacity that must not be written.
func lent(n api.Nat) api.Nat {
	memory := append(slices.Clone(n), 11, 12, 13, 14, 15, 16, 17, 18)
	return memory[:len(n)]
}

func lentRatio(x api.Ratio) api.Ratio {
	return api.Ratio{Neg: x.Neg, Num: lent(x.Num), Den: lent(x.Den)}
}

// untouched reports whether a lent number is still as it was lent, spare capacity included.
func untouched(x, lent api.Ratio) bool {
	same := func(a, b api.Nat) bool { return slices.Equal(a[:cap(a)], b[:cap(b)]) }
	want := lentRatio(x)
	return same(lent.Num, want.Num) && same(lent.Den, want.Den)
}

// overwrite changes all the memory of a numerator; the denominator must not change with it. Then it changes that, too.
func overwrite(t *testing.T, name string, x api.Ratio) {
	t.Helper()
	den := slices.Clone(x.Den[:cap(x.Den)])
	flip := func(n api.Nat) {
		for i := range n {
			n[i] = ^n[i]
		}
	}
	flip(x.Num[:cap(x.Num)])
	if !slices.Equal(x.Den[:cap(x.Den)], den) {
		t.Error(name, "shares memory within its result")
	}
	flip(x.Den[:cap(x.Den)])
}

func TestArgumentsAreNeitherChangedNorShared(t *testing.T) {
	calls := map[string]func(x, y api.Ratio) api.Ratio{
		"Make":     func(x, y api.Ratio) api.Ratio { a, _ := Make(x, 2); return a.Value },
		"Make 1":   func(x, y api.Ratio) api.Ratio { a, _ := Make(x, 1); return a.Value },
		"Rational": func(x, y api.Ratio) api.Ratio { z, _ := Rational(ofDegree(x, 1)); return z },
		"Mul":      func(x, y api.Ratio) api.Ratio { a, _ := Mul(ofDegree(x, 2), ofDegree(y, 2)); return a.Value },
		"Quo":      func(x, y api.Ratio) api.Ratio { a, _ := Quo(ofDegree(x, 2), ofDegree(y, 3)); return a.Value },
		"Power":    func(x, y api.Ratio) api.Ratio { a, _ := Power(ofDegree(x, 6), 1); return a.Value },
		"Inverse":  func(x, y api.Ratio) api.Ratio { a, _ := Power(ofDegree(x, 1), -1); return a.Value },
		"Root":     func(x, y api.Ratio) api.Ratio { a, _ := Root(ofDegree(x, 2), 1); return a.Value },
		"Compare":  func(x, y api.Ratio) api.Ratio { Compare(ofDegree(x, 2), ofDegree(y, 3)); return api.Ratio{} },
		"Mean":     func(x, y api.Ratio) api.Ratio { a, _ := Mean([]api.Ratio{x, y}); return a.Value },
		"Mean 1":   func(x, y api.Ratio) api.Ratio { a, _ := Mean([]api.Ratio{x}); return a.Value },
		"Weighted": func(x, y api.Ratio) api.Ratio { a, _ := Weighted([]api.Ratio{x, y}, []int{1, 0}, 1); return a.Value },
		"Round":    func(x, y api.Ratio) api.Ratio { z, _ := Round(ofDegree(x, 1), 0); return z },
	}
	list := []api.Ratio{{}, fraction(-1, 1), fraction(1, 1), fraction(7, 1), loose(fraction(7, 1)), fraction(4, 9), loose(fraction(4, 9)), fraction(1, 5), {Num: api.Nat{1, 2, 3}, Den: api.Nat{4, 5, 6}}, {Num: api.Nat{3}, Den: api.Nat{0, 0}}}
	for name, call := range calls {
		for _, x := range list {
			for _, y := range list {
				a, b := lentRatio(x), lentRatio(y)
				overwrite(t, name, call(a, b))
				if !untouched(x, a) || !untouched(y, b) {
					t.Error(name, x, y, "became", a, b)
				}
				same := lentRatio(x)
				overwrite(t, name, call(same, same))
				if !untouched(x, same) {
					t.Error(name, x, "twice became", same)
				}
			}
		}
	}
}

func TestListsAreLeft(t *testing.T) {
	memory := []api.Ratio{fraction(6, 5), loose(fraction(1, 3)), fraction(9, 1), fraction(7, 1)}
	powers := []int{-2, 3, 5, 7}
	want := slices.Clone(memory)
	Mean(memory[:2])
	Weighted(memory[:2], powers[:2], 5)
	for i, x := range memory {
		if !agree(x, want[i]) {
			t.Error(i, x)
		}
	}
	if !slices.Equal(powers, []int{-2, 3, 5, 7}) {
		t.Error(powers)
	}
}

// TestLaws checks that Mul is commutative and associative and that Quo undoes it.
func TestLaws(t *testing.T) {
	list := []api.Radical{root(1, 1, 1), root(2, 1, 2), root(8, 27, 6), root(9, 4, 2), root(5, 7, 3), root(1, 6, 4), root(12, 5, 1)}
	for _, a := range list {
		for _, b := range list {
			ab, e := Mul(a, b)
			ba, f := Mul(b, a)
			expect(t, ba, f, ab, e, a, b)
			back, e := Quo(ab, b)
			want, f := Make(a.Value, a.Degree)
			expect(t, back, e, want, f, a, b)
			for _, c := range list {
				bc, e := Mul(b, c)
				left, f := Mul(ab, c)
				right, g := Mul(a, bc)
				expect(t, left, f, right, e, g, a, b, c)
			}
		}
	}
}
