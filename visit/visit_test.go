package visit

import (
	"fmt"
	"math/rand/v2"
	"slices"
	"testing"

	"priceoffice/api"
	"priceoffice/collection"
)

// orders returns lists with the same valid messages.
func orders(list []api.Message) [][]api.Message {
	back := slices.Clone(list)
	slices.Reverse(back)
	invalid := sent("a", 1, priced("o", cola, 10, 0))
	return [][]api.Message{list, back, slices.Concat(list, back), collection.Merge(list, nil), append(back, invalid, api.Message{})}
}

// check compares all functions with their descriptions.
func (s space) check(t *testing.T, lists ...[]api.Message) {
	t.Helper()
	r := s.read(lists[0])
	for _, list := range lists {
		for _, outlet := range s.outlets {
			for _, product := range s.products {
				if got, want := Series(list, outlet, product), r.wantSeries(outlet, product); !slices.Equal(got, want) {
					t.Errorf("%+v: Series of %s, %s: %+v, want %+v", list, outlet, product, got, want)
				}
				if got, want := Replacements(list, outlet, product), r.wantReplacements(outlet, product); !slices.Equal(got, want) {
					t.Errorf("%+v: Replacements of %s, %s: %v, want %v", list, outlet, product, got, want)
				}
			}
		}
		if got, want := plain(t, Observations(list)), r.wantObservations(); !slices.Equal(got, want) {
			t.Errorf("%+v: Observations %+v, want %+v", list, got, want)
		}
		if got, want := Disputed(list), r.wantDisputed(); !slices.Equal(got, want) {
			t.Errorf("%+v: Disputed %+v, want %+v", list, got, want)
		}
	}
}

func checkAll(t *testing.T, list []api.Message) {
	t.Helper()
	spaceOf(list).check(t, orders(list)...)
}

func checkSeries(t *testing.T, list []api.Message, outlet, product string, want ...api.Visit) {
	t.Helper()
	for _, same := range orders(list) {
		if got := Series(same, outlet, product); !slices.Equal(got, want) {
			t.Errorf("%+v: %+v, want %+v", same, got, want)
		}
	}
	checkAll(t, list)
}

// story is the document's example.
func story() []api.Visit {
	return []api.Visit{priced("o", cola, 10, 100), sale("o", cola, 11, 90), missing("o", cola, 12), replaced("o", cola, 13, 110, tea)}
}

func TestSeriesOfTheExample(t *testing.T) {
	list := book("a", story()...)
	checkSeries(t, list, "o", cola, story()...)
	checkSeries(t, list, "o", tea)
	checkSeries(t, list, "n", cola)
	checkSeries(t, list, "", "")
	checkSeries(t, nil, "o", cola)
}

func TestSeriesGoesOnBehindTheEnd(t *testing.T) {
	visits := []api.Visit{replaced("o", cola, 9, 5, tea), priced("o", cola, 10, 6), gone("o", cola, 11), missing("o", cola, 100), sale("o", cola, 1000, 7)}
	checkSeries(t, book("a", visits...), "o", cola, visits...)
}

func TestSeriesByPeriod(t *testing.T) {
	visits := []api.Visit{priced("o", cola, 0, 1), gone("o", cola, 1), priced("o", cola, 9, 2), priced("o", cola, 10, 3), priced("o", cola, 99, 4), priced("o", cola, 100, 5), priced("o", cola, api.MaxPeriod, 6)}
	checkSeries(t, book("a", visits...), "o", cola, visits...)
	beyond := append(book("a", visits...), sent("a", 20, priced("o", cola, -1, 1)), sent("a", 21, priced("o", cola, api.MaxPeriod+1, 1)))
	checkSeries(t, beyond, "o", cola, visits...)
	checkSeries(t, book("a", priced("o", cola, 10, 1), priced("n", cola, 10, 2), priced("o", tea, 10, 3), priced("o-", cola, 10, 4)), "o", cola, priced("o", cola, 10, 1))
}

// TestSeriesHasTheVisitsThatCount has corrected, agreed, disputed, decided, cloned and invalid visits.
func TestSeriesHasTheVisitsThatCount(t *testing.T) {
	first, second, later := priced("o", cola, 10, 1), priced("o", cola, 10, 2), priced("o", cola, 11, 3)
	checkSeries(t, book("a", first, later, second), "o", cola, second, later)
	agreed := first
	agreed.Day++
	checkSeries(t, slices.Concat(book("b", first, later), book("a", agreed)), "o", cola, agreed, later)
	dispute := slices.Concat(book("a", first, later), book("b", second))
	checkSeries(t, dispute, "o", cola, later)
	checkSeries(t, append(dispute, decides("c", 1, first, "b", 1)), "o", cola, second, later)
	checkSeries(t, append(dispute, decides("c", 1, first, "a", 1)), "o", cola, first, later)
	checkSeries(t, append(dispute, decides("c", 1, later, "b", 1)), "o", cola, later)
	// A decision whose mark is cloned is ignored.
	checkSeries(t, append(dispute, decides("c", 1, first, "b", 1), decides("c", 1, first, "a", 1)), "o", cola, later)
	// The mark can be cloned by a message about another outlet, product or period, and of the other Kind.
	for _, other := range []api.Visit{priced("n", cola, 10, 1), priced("o", tea, 10, 1), priced("o", cola, 12, 1), second} {
		clone := sent("a", 1, other)
		checkSeries(t, append(book("a", first, later), clone), "o", cola, later)
		checkSeries(t, append(book("a", first, later), decides("a", 1, other, "a", 2)), "o", cola, later)
		checkSeries(t, append(dispute, decides("c", 1, first, "b", 1), sent("c", 1, other)), "o", cola, later)
	}
	for _, invalid := range []api.Message{sent("a", 3, priced("o", cola, 10, 0)), sent("A", 1, second), sent("a", 0, second), {Device: "a", Sequence: 3, Kind: 3, Visit: second}} {
		checkSeries(t, append(book("a", first, later), invalid), "o", cola, first, later)
	}
	mixed := decides("a", 4, first, "a", 1)
	mixed.Visit = second
	checkSeries(t, append(book("a", first, later), mixed), "o", cola, first, later)
	mixed.Kind = api.MessageVisit
	checkSeries(t, append(book("a", first, later), mixed), "o", cola, first, later)
}

func checkReplacements(t *testing.T, list []api.Message, outlet string, want ...string) {
	t.Helper()
	for _, same := range orders(list) {
		if got := Replacements(same, outlet, want[0]); !slices.Equal(got, want) {
			t.Errorf("%+v: %v, want %v", same, got, want)
		}
	}
	checkAll(t, list)
}

func TestReplacements(t *testing.T) {
	list := book("a", story()...)
	checkReplacements(t, list, "o", cola, tea)
	checkReplacements(t, list, "o", tea)
	checkReplacements(t, list, "n", cola)
	checkReplacements(t, nil, "o", "any string")
	checkReplacements(t, list, "", "")
	// The replacements need neither be later nor have visits of their own.
	chain := book("a", replaced("o", cola, 20, 1, tea), replaced("o", tea, 10, 1, juice), replaced("o", juice, 20, 1, water))
	checkReplacements(t, chain, "o", cola, tea, juice, water)
	checkReplacements(t, chain, "o", juice, water)
	checkReplacements(t, append(chain, sent("a", 9, gone("o", tea, 5))), "o", cola, tea)
	checkReplacements(t, append(chain, sent("a", 9, gone("o", tea, 15))), "o", cola, tea, juice, water)
	checkReplacements(t, append(chain, sent("a", 9, gone("n", tea, 5))), "o", cola, tea, juice, water)
	elsewhere := book("a", replaced("o", cola, 20, 1, tea), replaced("n", tea, 20, 1, juice))
	checkReplacements(t, elsewhere, "o", cola, tea)
	checkReplacements(t, elsewhere, "n", tea, juice)
}

func TestReplacementsThatReturn(t *testing.T) {
	ring := book("a", replaced("o", cola, 20, 1, tea), replaced("o", tea, 21, 1, juice), replaced("o", juice, 22, 1, cola))
	checkReplacements(t, ring, "o", cola, tea, juice)
	checkReplacements(t, ring, "o", tea, juice, cola)
	checkReplacements(t, ring, "o", juice, cola, tea)
	// The ring need not contain the first product.
	tail := book("a", replaced("o", water, 20, 1, cola), replaced("o", cola, 20, 1, tea), replaced("o", tea, 20, 1, cola))
	checkReplacements(t, tail, "o", water, cola, tea)
}

func TestReplacementsFollowTheEnd(t *testing.T) {
	twice := book("a", replaced("o", cola, 10, 1, tea), replaced("o", cola, 11, 1, juice))
	checkReplacements(t, twice, "o", cola, tea)
	checkReplacements(t, append(twice, sent("a", 3, gone("o", cola, 9))), "o", cola)
	checkReplacements(t, append(twice, sent("a", 3, missing("o", cola, 9))), "o", cola, tea)
	checkReplacements(t, append(twice, sent("a", 3, priced("o", cola, 10, 1))), "o", cola, juice)
	rival := sent("b", 1, replaced("o", cola, 10, 1, water))
	checkReplacements(t, append(twice, rival), "o", cola, juice)
	checkReplacements(t, append(twice, rival, decides("c", 1, rival.Visit, "b", 1)), "o", cola, water)
}

// TestScatteredMessages compares all functions with their descriptions, whatever the order of the messages.
func TestScatteredMessages(t *testing.T) {
	random := rand.New(rand.NewPCG(1, 35))
	count := map[string]int{}
	for range 1500 {
		s := small()
		list := s.randomList(random, 30)
		again := slices.Concat(list, collection.Merge(list, nil))
		random.Shuffle(len(again), func(i, k int) { again[i], again[k] = again[k], again[i] })
		s.check(t, list, again)
		count["observations"] += len(Observations(list))
		count["disputed"] += len(Disputed(list))
		for _, product := range s.products {
			count[fmt.Sprint("replacements ", len(Replacements(list, "o", product)))]++
		}
	}
	if count["observations"] < 1000 || count["disputed"] < 500 || count["replacements 2"] < 100 || count["replacements 3"] < 50 {
		t.Error("the lists are too plain", count)
	}
}

// id returns the ID of 13 digits with a number.
func id(number int) string {
	digits := fmt.Sprintf("%012d", number)
	sum := 0
	for i := range digits {
		sum += int(digits[i]-'0') * (1 + i%2*2)
	}
	return digits + fmt.Sprint((10-sum%10)%10)
}

// TestManyMessages has as many messages as an office has, so that nothing may take time by pairs of them.
func TestManyMessages(t *testing.T) {
	const n = 20000
	var list []api.Message
	for i := range n {
		list = append(list, sent("a", i+1, replaced("o", id(i), 100, int64(i+1), id(i+1))))
	}
	if got := Replacements(list, "o", id(0)); len(got) != n+1 || got[n] != id(n) {
		t.Error(len(got))
	}
	if got := plain(t, Observations(list)); !slices.Equal(got, []price{{"o", id(n), 100, fmt.Sprint(n)}}) {
		t.Error(len(got))
	}
	for i := range n {
		list[i].Visit = priced("o", id(i), i%6000, 7)
	}
	if got := Observations(list); len(got) != n {
		t.Error(len(got))
	}
	rivals := slices.Clone(list)
	for i := range n {
		rivals[i].Device = "b"
		rivals[i].Visit.Price++
	}
	if got := Disputed(slices.Concat(list, rivals)); len(got) != n {
		t.Error(len(got))
	}
	for i := range n {
		list[i].Visit = priced("o", cola, i%6000, 7)
	}
	if got := Series(list, "o", cola); len(got) != 6000 || StateAt(got, 6000) != (api.Status{Kind: api.StateActive, Since: 0}) {
		t.Error(len(got))
	}
}
