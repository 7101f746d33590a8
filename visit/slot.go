package visit

import (
	"cmp"
	"maps"
	"slices"

	"priceoffice/api"
	"priceoffice/collection"
)

// item is a product in an outlet.
type item struct {
	outlet, product string
}

// slot is an item in a period.
type slot struct {
	item
	period int
}

// findings are what messages say about slots: their verdicts, and the visits that count, by period.
type findings struct {
	verdicts map[slot]int
	series   map[item][]api.Visit
}

// resolved returns the findings about the wanted slots.
func resolved(list []api.Message, wanted func(s slot) bool) findings {
	found := findings{map[slot]int{}, map[item][]api.Visit{}}
	groups := bySlot(list, wanted)
	for _, s := range sortedSlots(groups) {
		v, verdict := collection.Resolve(groups[s], s.outlet, s.product, s.period)
		found.verdicts[s] = verdict
		if verdict == api.VerdictVisit {
			found.series[s.item] = append(found.series[s.item], v)
		}
	}
	return found
}

// bySlot returns the messages about each wanted slot. Cloned marks are looked for in the whole list, since messages
// about different slots may share one; so each group can be resolved on its own, which is faster.
func bySlot(list []api.Message, wanted func(s slot) bool) map[slot][]api.Message {
	ignored := map[api.Mark]bool{}
	for _, mark := range collection.Cloned(list) {
		ignored[mark] = true
	}
	groups := map[slot][]api.Message{}
	for _, m := range list {
		s := slotOf(m)
		if wanted(s) && !ignored[api.Mark{Device: m.Device, Sequence: m.Sequence}] {
			groups[s] = append(groups[s], m)
		}
	}
	return groups
}

func anySlot(slot) bool { return true }

// slotOf returns the slot that a message is about. Any slot will do for a message that is not valid.
func slotOf(m api.Message) slot {
	if m.Kind == api.MessageDecision {
		return slot{item{m.Decision.Outlet, m.Decision.Product}, m.Decision.Period}
	}
	return slot{item{m.Visit.Outlet, m.Visit.Product}, m.Visit.Period}
}

// sortedSlots returns the keys of a map by outlet, product and period.
func sortedSlots[T any](values map[slot]T) []slot {
	return slices.SortedFunc(maps.Keys(values), func(a, b slot) int {
		return cmp.Or(cmp.Compare(a.outlet, b.outlet), cmp.Compare(a.product, b.product), cmp.Compare(a.period, b.period))
	})
}
