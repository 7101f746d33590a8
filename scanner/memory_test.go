package scanner

import (
	"fmt"
	"math"
	"math/rand/v2"
	"reflect"
	"slices"
	"testing"

	"priceoffice/api"
)

// lent are the arguments of a call, with spare capacity that must be neither read nor written.
type lent struct {
	rows    []api.Row
	catalog []api.Product
	share   api.Ratio
}

// lend returns arguments in memory of their own, and all of that memory.
func lend(rows []api.Row) (lent, lent) {
	all := lent{
		rows:    append(slices.Clone(rows), row("o", cola, 9, 8, 9), row("zz", juice, 8, 1, 1000), api.Row{}),
		catalog: []api.Product{{ID: tea}, {ID: juice, Attributes: []api.Attribute{{Name: "a", Value: "b"}}}, {ID: cola}, {ID: water}},
		share:   api.Ratio{Num: api.Nat{4, 0, 0, 1}, Den: api.Nat{6, 0, 1}},
	}
	part := all
	part.rows, part.catalog = part.rows[:len(rows)], part.catalog[:2]
	part.share.Num, part.share.Den = part.share.Num[:2], part.share.Den[:2]
	return part, all
}

// calls are the functions of the package that take a list; each returns a text of its result and overwrites the result
// itself, spare capacity included.
func calls() map[string]func(x lent) string {
	return map[string]func(x lent) string{
		"Validate": func(x lent) string { return fmt.Sprint(Validate(x.rows)) },
		"Combine": func(x lent) string {
			got, e := Combine(x.rows)
			kept := fmt.Sprint(got, e)
			clear(got[:cap(got)])
			return kept
		},
		"Observations": func(x lent) string {
			got, e := Observations(x.rows)
			kept := fmt.Sprint(got, e)
			overwrite(got)
			return kept
		},
		"Turnover": func(x lent) string { return fmt.Sprint(Turnover(x.rows, 9)) },
		"Coverage": func(x lent) string { return fmt.Sprint(Coverage(x.rows, x.catalog, 9)) },
		"Top": func(x lent) string {
			got := Top(x.rows, 9, x.share)
			kept := fmt.Sprint(got)
			clear(got[:cap(got)])
			return kept
		},
	}
}

// overwrite fills the numbers of observations, too.
func overwrite(list []api.Observation) {
	for _, o := range list {
		for _, limbs := range []api.Nat{o.Price.Num, o.Price.Den} {
			limbs = limbs[:cap(limbs)]
			for i := range limbs {
				limbs[i] = math.MaxUint32
			}
		}
	}
	clear(list[:cap(list)])
}

func TestArgumentsAreNeitherChangedNorShared(t *testing.T) {
	random := rand.New(rand.NewPCG(6, 38))
	for range 500 {
		rows := randomList(random, 20)
		if random.IntN(5) == 0 {
			rows = append(rows, api.Row{Outlet: "o"})
		}
		for name, call := range calls() {
			part, all := lend(rows)
			_, before := lend(rows)
			first := call(part)
			if second := call(part); first != second {
				t.Errorf("%s of %v: %s, then %s", name, rows, first, second)
			}
			if !reflect.DeepEqual(all, before) {
				t.Errorf("%s changed its arguments: %+v", name, all)
			}
			bare := lent{slices.Clip(slices.Clone(rows)), slices.Clip(slices.Clone(part.catalog)), fraction(2, 3)}
			if third := call(bare); first != third {
				t.Errorf("%s of %v: %s without spare capacity, %s with it", name, rows, third, first)
			}
		}
	}
}

// TestPricesShareNoMemory overwrites each price and looks at the others.
func TestPricesShareNoMemory(t *testing.T) {
	rows := []api.Row{row("o", cola, 5, 1<<39+1, 1<<40), row("o", cola, 6, 1<<39+1, 1<<40), row("o", tea, 5, 1<<40, 1<<40), row("n", tea, 5, 1<<39+1, 1<<40-1)}
	got, _ := Observations(rows)
	want, _ := Observations(rows)
	for i := range got {
		rest := slices.Clone(got[i+1:])
		overwrite(got[i : i+1 : i+1])
		if !slices.EqualFunc(rest, want[i+1:], func(a, b api.Observation) bool { return denotes(a.Price, value(b.Price)) }) {
			t.Errorf("prices share memory: %+v", rest)
		}
	}
	price, _ := UnitValue(rows[0])
	for i := range price.Num {
		price.Num[i] = 0
	}
	if again, _ := UnitValue(rows[0]); !denotes(again, value(fraction(1<<40, 1<<39+1))) || !slices.Equal(price.Den, again.Den) {
		t.Error("unit values share memory", price, again)
	}
}
