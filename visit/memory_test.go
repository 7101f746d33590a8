package visit

import (
	"fmt"
	"math"
	"math/rand/v2"
	"slices"
	"testing"

	"priceoffice/api"
)

// calls are the functions of the package that take messages; each returns a text of its result and overwrites the
// result itself, spare capacity included.
func calls() map[string]func(list []api.Message) string {
	text := func(value any) string { return fmt.Sprintf("%+v", value) }
	return map[string]func(list []api.Message) string{
		"Series": func(list []api.Message) string {
			got := Series(list, "o", cola)
			kept := text(got)
			clear(got[:cap(got)])
			return kept
		},
		"Replacements": func(list []api.Message) string {
			got := Replacements(list, "o", cola)
			kept := text(got)
			clear(got[:cap(got)])
			return kept
		},
		"Observations": func(list []api.Message) string {
			got := Observations(list)
			kept := text(got)
			overwrite(got)
			return kept
		},
		"Disputed": func(list []api.Message) string {
			got := Disputed(list)
			kept := text(got)
			clear(got[:cap(got)])
			return kept
		},
	}
}

// overwrite fills the numbers of observations, too.
func overwrite(list []api.Observation) {
	for _, o := range list {
		for _, limbs := range []api.Nat{o.Price.Num, o.Price.Den} {
			limbs = limbs[:cap(limbs)]
			for i := range limbs {
				limbs[i] = math.MaxUint32
			}
		}
	}
	clear(list[:cap(list)])
}

// TestArgumentsAreNeitherChangedNorShared has lists whose memory goes on behind their end.
func TestArgumentsAreNeitherChangedNorShared(t *testing.T) {
	random := rand.New(rand.NewPCG(5, 35))
	behind := append(book("zz", story()...), book("a", gone("o", cola, 8), replaced("o", cola, 8, 3, water))...)
	for range 500 {
		list := small().randomList(random, 20)
		for name, call := range calls() {
			memory := slices.Concat(list, behind)
			before := slices.Clone(memory)
			lent := memory[:len(list)]
			first := call(lent)
			if second := call(lent); first != second {
				t.Errorf("%s of %+v: %s, then %s", name, list, first, second)
			}
			if !slices.Equal(memory, before) {
				t.Errorf("%s changed %+v", name, list)
			}
			if bare := call(slices.Clip(slices.Clone(list))); first != bare {
				t.Errorf("%s of %+v: %s without spare capacity, %s with it", name, list, bare, first)
			}
		}
	}
}

// TestStateLeavesItsSeries has a series that filtering in place would change.
func TestStateLeavesItsSeries(t *testing.T) {
	memory := append([]api.Visit{priced("o", cola, 9, 1), missing("o", cola, 5), priced("o", cola, 8, 1), sale("o", cola, 4, 1)}, story()...)
	before := slices.Clone(memory)
	for n := range memory {
		for period := range 15 {
			first := StateAt(memory[:n], period)
			if second := StateAt(slices.Clip(slices.Clone(memory[:n])), period); first != second {
				t.Errorf("%d, %d: %+v, then %+v", n, period, first, second)
			}
		}
	}
	if !slices.Equal(memory, before) {
		t.Error("StateAt changed its series")
	}
}

// TestPricesShareNoMemory overwrites each price and looks at the others.
func TestPricesShareNoMemory(t *testing.T) {
	list := book("a", priced("o", cola, 10, 1<<33+1), priced("o", cola, 11, 1<<33+1), replaced("o", tea, 10, 1<<33+1, juice), replaced("n", tea, 10, 1<<33+1, juice))
	got := Observations(list)
	want := plain(t, Observations(list))
	for i := range got {
		rest := slices.Clone(got[i+1:])
		overwrite(got[i : i+1 : i+1])
		if !slices.Equal(plain(t, rest), want[i+1:]) {
			t.Errorf("prices share memory: %+v", rest)
		}
	}
	if len(want) != 4 {
		t.Error(want)
	}
}
