package tariff

import (
	"fmt"
	"math"
	"math/rand/v2"
	"reflect"
	"slices"
	"testing"

	"priceoffice/api"
)

// lent are the arguments of a call, with spare capacity that must be neither read nor written.
type lent struct {
	base, current api.Tariff
	list          []api.Use
}

// lend returns arguments in memory of their own, and all of that memory.
func lend(x lent) (lent, lent) {
	more := func(t api.Tariff) api.Tariff {
		return api.Tariff{Standing: t.Standing, Blocks: append(slices.Clone(t.Blocks), api.Block{UpTo: 9, Price: 9}, api.Block{Price: 1})}
	}
	all := lent{more(x.base), more(x.current), append(slices.Clone(x.list), api.Use{Amount: 9, Count: 9}, api.Use{})}
	part := all
	part.base.Blocks = part.base.Blocks[:len(x.base.Blocks)]
	part.current.Blocks = part.current.Blocks[:len(x.current.Blocks)]
	part.list = part.list[:len(x.list)]
	return part, all
}

// calls are the functions of the package; each returns a text of its result and overwrites the result itself, spare
// capacity included.
func calls() map[string]func(x lent) string {
	number := func(x api.Ratio, e api.Errno) string {
		kept := fmt.Sprint(x, e)
		overwrite(x)
		return kept
	}
	return map[string]func(x lent) string{
		"Validate":   func(x lent) string { return fmt.Sprint(Validate(x.base)) },
		"Bill":       func(x lent) string { return number(Bill(x.base, 7)) },
		"Marginal":   func(x lent) string { return fmt.Sprint(Marginal(x.base, 7)) },
		"Average":    func(x lent) string { return number(Average(x.base, x.list)) },
		"Index":      func(x lent) string { return number(Index(x.base, x.current, x.list)) },
		"Equivalent": func(x lent) string { return fmt.Sprint(Equivalent(x.base, x.current)) },
	}
}

func overwrite(x api.Ratio) {
	for _, limbs := range []api.Nat{x.Num, x.Den} {
		limbs = limbs[:cap(limbs)]
		for i := range limbs {
			limbs[i] = math.MaxUint32
		}
	}
}

func TestArgumentsAreNeitherChangedNorShared(t *testing.T) {
	random := rand.New(rand.NewPCG(7, 41))
	for range 1000 {
		x := lent{randomTariff(random, 12), randomTariff(random, 12), randomUses(random, 12)}
		switch random.IntN(8) {
		case 0:
			x.base.Blocks = x.base.Blocks[:len(x.base.Blocks)-1]
		case 1:
			x.list = append(x.list, api.Use{})
		case 2:
			x.current = x.base
		}
		for name, call := range calls() {
			part, all := lend(x)
			_, before := lend(x)
			first := call(part)
			if second := call(part); first != second {
				t.Errorf("%s of %v: %s, then %s", name, x, first, second)
			}
			if !reflect.DeepEqual(all, before) {
				t.Errorf("%s changed its arguments: %+v", name, all)
			}
			bare := lent{api.Tariff{Standing: x.base.Standing, Blocks: slices.Clip(slices.Clone(x.base.Blocks))}, x.current, slices.Clip(slices.Clone(x.list))}
			if third := call(bare); first != third {
				t.Errorf("%s of %v: %s without spare capacity, %s with it", name, x, third, first)
			}
		}
	}
}
