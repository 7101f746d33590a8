package sample

import (
	"math/big"
	"math/rand/v2"
	"slices"
	"testing"

	"priceoffice/api"
)

// lent returns x in memory of its own, with spare capacity that must be neither read nor written.
func lent(x api.Ratio) api.Ratio {
	spare := func(n api.Nat) api.Nat { return append(slices.Clone(n), 11, 12, 13, 14, 15, 16)[:len(n)] }
	return api.Ratio{Neg: x.Neg, Num: spare(x.Num), Den: spare(x.Den)}
}

func lentList(list []api.Ratio) []api.Ratio {
	var memory []api.Ratio
	for _, x := range list {
		memory = append(memory, lent(x))
	}
	return append(memory, lent(fraction(-21, 22)), lent(fraction(23, 24)))[:len(list)]
}

func lentSizes(sizes []int64) []int64 {
	return append(slices.Clone(sizes), -1, 0, 7)[:len(sizes)]
}

// identicalMemory reports whether two numbers agree in all their limbs, spare capacity included.
func identicalMemory(x, y api.Ratio) bool {
	same := func(a, b api.Nat) bool { return slices.Equal(a[:cap(a)], b[:cap(b)]) }
	return x.Neg == y.Neg && same(x.Num, y.Num) && same(x.Den, y.Den)
}

// untouched reports whether a lent list is as it was lent, with the two numbers behind it.
func untouched(list, lent []api.Ratio) bool {
	return slices.EqualFunc(list[:len(list)+2], lent[:len(lent)+2], identicalMemory)
}

// overwrite changes all the memory of a result's numbers, part by part; no other part may change with it.
func overwrite(t *testing.T, name string, result []api.Ratio) {
	t.Helper()
	var limbs []api.Nat
	for _, x := range result[:cap(result)] {
		limbs = append(limbs, x.Num[:cap(x.Num)], x.Den[:cap(x.Den)])
	}
	for i, n := range limbs {
		others := func() api.Nat { return slices.Concat(slices.Concat(limbs[:i]...), slices.Concat(limbs[i+1:]...)) }
		before := others()
		for k := range n {
			n[k] = ^n[k]
		}
		if !slices.Equal(others(), before) {
			t.Error(name, "shares memory within its result")
		}
	}
	clear(result[:cap(result)])
}

// scatteredRatios returns numbers from 0 to 1, some of them not canonical; the first one is 1.
func scatteredRatios(random *rand.Rand, length int) []api.Ratio {
	list := fractions(1, 1)
	for len(list) < length {
		den := 1 + random.Int64N(60)
		x := fraction(1+random.Int64N(den), den)
		if random.IntN(3) == 0 {
			x = loose(x)
		}
		list = append(list, x)
	}
	return list
}

func TestSizesAreNeitherChangedNorShared(t *testing.T) {
	random := rand.New(rand.NewPCG(6, 29))
	for range 100 {
		sizes := scatteredSizes(random, 1+random.IntN(12))
		n := 1 + random.IntN(len(sizes))
		start := loose(fraction(random.Int64N(12), 12))
		d := plainDraw(sizes, n)
		gotSizes, gotStart := lentSizes(sizes), lent(start)
		for range 2 {
			inclusion, _ := Inclusion(gotSizes, n)
			if !sameRatios(inclusion, d.inclusion()) {
				t.Error("Inclusion", sizes, n, inclusion)
			}
			overwrite(t, "Inclusion", inclusion)
			breaks, _ := Breaks(gotSizes, n)
			if !sameRatios(breaks, d.breaks()) {
				t.Error("Breaks", sizes, n, breaks)
			}
			overwrite(t, "Breaks", breaks)
			units, _ := Systematic(gotSizes, n, gotStart)
			if !slices.Equal(units, d.systematic(value(start))) {
				t.Error("Systematic", sizes, n, units)
			}
			clear(units[:cap(units)])
		}
		want := lentSizes(sizes)
		if !slices.Equal(gotSizes[:len(sizes)+3], want[:len(sizes)+3]) || !identicalMemory(gotStart, lent(start)) {
			t.Error("changed an argument", sizes, n, start)
		}
	}
}

func TestNumbersAreNeitherChangedNorShared(t *testing.T) {
	random := rand.New(rand.NewPCG(7, 29))
	for range 100 {
		length := 1 + random.IntN(9)
		first, second := scatteredRatios(random, length), scatteredRatios(random, length)
		gotFirst, gotSecond := lentList(first), lentList(second)
		for range 2 {
			counts, _ := Allocate(1000, gotFirst)
			if !slices.Equal(counts, wantAllocation(1000, first)) {
				t.Error("Allocate", first, counts)
			}
			clear(counts[:cap(counts)])
			estimate, _ := Estimate(gotFirst, gotSecond)
			if !denotes(estimate, wantEstimate(first, second)) {
				t.Error("Estimate", first, second, estimate)
			}
			overwrite(t, "Estimate", []api.Ratio{estimate})
			// Both arguments are one list here.
			one, _ := Estimate(gotFirst, gotFirst)
			if !denotes(one, big.NewRat(int64(length), 1)) {
				t.Error("Estimate", first, one)
			}
			overwrite(t, "Estimate", []api.Ratio{one})
		}
		if !untouched(gotFirst, lentList(first)) || !untouched(gotSecond, lentList(second)) {
			t.Error("changed an argument", first, second)
		}
	}
}

// TestRefusedNumbersAreNotChanged has lists with errors.
func TestRefusedNumbersAreNotChanged(t *testing.T) {
	for _, list := range [][]api.Ratio{{loose(fraction(3, 2)), loose(fraction(-1, 2))}, {loose(fraction(0, 1))}, slices.Repeat([]api.Ratio{loose(fraction(1, 2))}, api.MaxUnits+1)} {
		got := lentList(list)
		Allocate(-1, got)
		Estimate(got, got)
		Systematic([]int64{1, 2}, 1, got[0])
		if !untouched(got, lentList(list)) {
			t.Error("changed", list)
		}
	}
}

func TestPanelsAreNewMemory(t *testing.T) {
	r := rotation(6, 4, 2, 3)
	for period := range 30 {
		want := slices.Clone(Panels(r, period))
		for range 2 {
			panels, shared := Panels(r, period), Shared(r, period, period)
			if !slices.Equal(panels, want) || !slices.Equal(shared, want) {
				t.Error(period, panels, shared)
			}
			for _, list := range [][]int{panels, shared} {
				list = list[:cap(list)]
				for i := range list {
					list[i] = -7
				}
			}
		}
	}
}
