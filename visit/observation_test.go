package visit

import (
	"math/rand/v2"
	"slices"
	"strconv"
	"testing"

	"priceoffice/api"
)

func at(outlet, product string, period int, amount int64) price {
	return price{outlet, product, period, strconv.FormatInt(amount, 10)}
}

func checkObservations(t *testing.T, list []api.Message, want ...price) {
	t.Helper()
	for _, same := range orders(list) {
		if got := plain(t, Observations(same)); !slices.Equal(got, want) {
			t.Errorf("%+v: %+v, want %+v", same, got, want)
		}
	}
	checkAll(t, list)
}

func TestObservationsOfTheExample(t *testing.T) {
	before := []price{at("o", cola, 10, 100), at("o", cola, 11, 90)}
	checkObservations(t, nil)
	checkObservations(t, book("a", story()[:3]...), before...)
	checkObservations(t, book("a", story()...), append([]price{at("o", tea, 13, 110)}, before...)...)
	// A visit to the slot of the replacement comes before the price of the replaced product.
	for _, own := range []api.Visit{missing("o", tea, 13), gone("o", tea, 13)} {
		checkObservations(t, book("a", append(story(), own)...), before...)
	}
	for _, own := range []api.Visit{priced("o", tea, 13, 120), sale("o", tea, 13, 120)} {
		checkObservations(t, book("a", append(story(), own)...), append([]price{at("o", tea, 13, 120)}, before...)...)
	}
	checkObservations(t, book("a", append(story(), replaced("o", tea, 13, 7, juice))...), append([]price{at("o", juice, 13, 7)}, before...)...)
	dispute := slices.Concat(book("a", append(story(), priced("o", tea, 13, 120))...), book("b", priced("o", tea, 13, 121)))
	checkObservations(t, dispute, before...)
	// Visits to the replacement in other periods or outlets do not matter.
	for _, other := range []api.Visit{missing("o", tea, 12), missing("o", tea, 14), missing("n", tea, 13), gone("o", tea, 14), gone("n", tea, 12)} {
		checkObservations(t, book("a", append(story(), other)...), append([]price{at("o", tea, 13, 110)}, before...)...)
	}
}

func TestObservationsAreSorted(t *testing.T) {
	visits := []api.Visit{priced("n", cola, 5000, 9), priced("o", water, 9, 1), priced("o", water, 10, 2), priced("o", juice, 0, 3), priced("o", tea, 0, 4), priced("o", cola, 0, 5), priced("o", cola, api.MaxPeriod, 6), priced("o-", water, 0, 7), priced("o0", water, 0, 8)}
	want := []price{at("n", cola, 5000, 9), at("o", water, 9, 1), at("o", water, 10, 2), at("o", juice, 0, 3), at("o", tea, 0, 4), at("o", cola, 0, 5), at("o", cola, api.MaxPeriod, 6), at("o-", water, 0, 7), at("o0", water, 0, 8)}
	random := rand.New(rand.NewPCG(3, 35))
	for range 4 {
		random.Shuffle(len(visits), func(i, k int) { visits[i], visits[k] = visits[k], visits[i] })
		checkObservations(t, book("a", visits...), want...)
	}
}

func TestPricesOfAnySize(t *testing.T) {
	for _, amount := range []int64{1, 2, 1<<32 - 1, 1 << 32, 1<<32 + 1, api.MaxPrice - 1, api.MaxPrice} {
		checkObservations(t, book("a", sale("o", cola, 3, amount)), at("o", cola, 3, amount))
		checkObservations(t, book("a", replaced("o", cola, 3, amount, tea)), at("o", tea, 3, amount))
	}
	checkObservations(t, book("a", priced("o", cola, 3, api.MaxPrice+1)))
}

// TestNoObservationBehindTheEnd has the consequence: what is gone or replaced has no observation in later periods.
func TestNoObservationBehindTheEnd(t *testing.T) {
	for _, end := range []api.Visit{gone("o", cola, 10), replaced("o", cola, 10, 4, tea)} {
		after := []api.Visit{priced("o", cola, 9, 1), end, priced("o", cola, 11, 2), missing("o", cola, 12), sale("o", cola, 13, 3), replaced("o", cola, 14, 5, juice)}
		want := []price{at("o", cola, 9, 1)}
		if end.Status == api.StatusReplaced {
			want = []price{at("o", tea, 10, 4), at("o", cola, 9, 1)}
		}
		checkObservations(t, book("a", after...), want...)
		// Nor does it have the price of another product that it replaces, but before its end it does.
		for period := 8; period < 13; period++ {
			back := append(slices.Clone(after[1:2]), replaced("o", water, period, 6, cola))
			want := []price{at("o", cola, period, 6)}
			if period >= 10 {
				want = nil
			}
			if end.Status == api.StatusReplaced {
				want = append([]price{at("o", tea, 10, 4)}, want...)
			}
			checkObservations(t, book("a", back...), want...)
		}
	}
	// A disputed end is none.
	disputed := slices.Concat(book("a", gone("o", cola, 10), priced("o", cola, 11, 2)), book("b", missing("o", cola, 10)))
	checkObservations(t, disputed, at("o", cola, 11, 2))
	checkObservations(t, append(disputed, decides("c", 1, gone("o", cola, 10), "a", 1)))
	checkObservations(t, append(disputed, decides("c", 1, gone("o", cola, 10), "b", 1)), at("o", cola, 11, 2))
}

// TestReplacedByTheSame has products that are replaced by one.
func TestReplacedByTheSame(t *testing.T) {
	first := replaced("o", cola, 4, 6, juice)
	for i, x := range []struct {
		others []api.Visit
		want   []price
	}{
		{[]api.Visit{replaced("o", tea, 4, 6, juice)}, []price{at("o", juice, 4, 6)}},
		{[]api.Visit{replaced("o", tea, 4, 6, juice), replaced("o", water, 4, 6, juice)}, []price{at("o", juice, 4, 6)}},
		{[]api.Visit{replaced("o", tea, 4, 7, juice)}, nil},
		{[]api.Visit{replaced("o", tea, 4, 5, juice)}, nil},
		{[]api.Visit{replaced("o", tea, 4, 6, juice), replaced("o", water, 4, 7, juice)}, nil},
		{[]api.Visit{replaced("o", tea, 4, 7, juice), replaced("o", water, 4, 6, juice)}, nil},
		{[]api.Visit{replaced("o", tea, 4, 7, juice), priced("o", juice, 4, 9)}, []price{at("o", juice, 4, 9)}},
		// In another outlet or period, or by another product.
		{[]api.Visit{replaced("n", tea, 4, 7, juice)}, []price{at("n", juice, 4, 7), at("o", juice, 4, 6)}},
		{[]api.Visit{replaced("o", tea, 5, 7, juice)}, []price{at("o", juice, 4, 6), at("o", juice, 5, 7)}},
		{[]api.Visit{replaced("o", tea, 4, 7, water)}, []price{at("o", water, 4, 7), at("o", juice, 4, 6)}},
		// Only ends count, and only visits that do.
		{[]api.Visit{gone("o", tea, 3), replaced("o", tea, 4, 7, juice)}, []price{at("o", juice, 4, 6)}},
		{[]api.Visit{replaced("o", tea, 3, 8, water), replaced("o", tea, 4, 7, juice)}, []price{at("o", water, 3, 8), at("o", juice, 4, 6)}},
		{[]api.Visit{replaced("o", tea, 4, 7, juice), missing("o", tea, 4)}, []price{at("o", juice, 4, 6)}},
		// The visited slot of a replacement has a price of its own or none.
		{[]api.Visit{replaced("o", juice, 4, 7, water)}, []price{at("o", water, 4, 7)}},
		{[]api.Visit{replaced("o", juice, 4, 7, cola)}, nil},
	} {
		checkObservations(t, book("a", append(x.others, first)...), x.want...)
		if t.Failed() {
			t.Fatal(i)
		}
	}
	// A disputed replacement gives no price, and does not contradict another one.
	rival := []api.Message{sent("b", 1, replaced("o", tea, 4, 7, juice)), sent("c", 1, replaced("o", tea, 4, 8, juice))}
	checkObservations(t, rival)
	checkObservations(t, append(rival, sent("a", 1, first)), at("o", juice, 4, 6))
	checkObservations(t, append(rival, decides("a", 1, rival[0].Visit, "c", 1)), at("o", juice, 4, 8))
	checkObservations(t, append(rival, decides("a", 1, rival[0].Visit, "c", 1), sent("a", 2, first)))
}

// TestSlotsThatAreNotVisited has slots with messages that are no visits, not valid, or ignored.
func TestSlotsThatAreNotVisited(t *testing.T) {
	list := book("a", replaced("o", cola, 4, 6, tea))
	own := priced("o", tea, 4, 9)
	checkObservations(t, append(list, decides("b", 1, own, "a", 1)), at("o", tea, 4, 6))
	checkObservations(t, append(list, sent("b", 1, priced("o", tea, 4, 0))), at("o", tea, 4, 6))
	// A slot whose only visit is ignored is not visited.
	checkObservations(t, append(list, sent("b", 1, own), sent("b", 1, priced("o", tea, 4, 10))), at("o", tea, 4, 6))
	checkObservations(t, append(list, sent("b", 1, own), decides("b", 1, own, "b", 1)), at("o", tea, 4, 6))
	checkObservations(t, append(list, sent("b", 1, own)), at("o", tea, 4, 9))
	// A visit that is ignored gives no price to a replacement.
	checkObservations(t, append(list, sent("a", 1, own)))
}

func checkDisputed(t *testing.T, list []api.Message, want ...api.Visit) {
	t.Helper()
	for _, same := range orders(list) {
		if got := Disputed(same); !slices.Equal(got, want) {
			t.Errorf("%+v: %+v, want %+v", same, got, want)
		}
	}
	checkAll(t, list)
}

func TestDisputed(t *testing.T) {
	bare := func(outlet, product string, period int) api.Visit {
		return api.Visit{Outlet: outlet, Product: product, Period: period}
	}
	want := []api.Visit{bare("n", cola, 5000), bare("o", water, 9), bare("o", water, 10), bare("o", juice, 0), bare("o", tea, 0), bare("o", cola, api.MaxPeriod), bare("o-", water, 0), bare("o0", water, 0)}
	var list []api.Message
	for i, v := range want {
		list = append(list, sent("b", i+1, priced(v.Outlet, v.Product, v.Period, 1)), sent("a", i+1, replaced(v.Outlet, v.Product, v.Period, 1, "96385081")))
	}
	checkDisputed(t, list, want...)
	checkDisputed(t, append(list, decides("a", 100, want[2], "a", 3)), slices.Concat(want[:2], want[3:])...)
	checkDisputed(t, append(list, decides("a", 100, want[2], "a", 4)), want...)
	checkDisputed(t, append(list, sent("c", 1, gone("o", water, 9))), want...)
	checkDisputed(t, append(list, sent("b", 50, replaced("o", water, 9, 1, "96385081"))), slices.Concat(want[:1], want[2:])...)
	checkDisputed(t, append(list, sent("a", 2, gone("n", tea, 1))), slices.Concat(want[:1], want[2:])...)
	checkDisputed(t, append(list, sent("a", 50, missing("o", tea, 7)), sent("b", 50, missing("o", tea, 7))), want...)
	checkDisputed(t, list[:1])
	checkDisputed(t, nil)
}

// TestDisputedSlotsHaveNoObservation has the consequences on scattered messages.
func TestDisputedSlotsHaveNoObservation(t *testing.T) {
	random := rand.New(rand.NewPCG(4, 35))
	s := small()
	for range 1000 {
		list := s.randomList(random, 30)
		disputed := Disputed(list)
		for _, o := range Observations(list) {
			if slices.Contains(disputed, api.Visit{Outlet: o.Outlet, Product: o.Product, Period: o.Period}) {
				t.Errorf("%+v: %+v is disputed", list, o)
			}
			state := StateAt(Series(list, o.Outlet, o.Product), o.Period-1)
			if state.Kind == api.StateGone || state.Kind == api.StateReplaced {
				t.Errorf("%+v: %+v is behind the end", list, o)
			}
		}
	}
}
