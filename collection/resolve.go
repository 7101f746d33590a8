package collection

import (
	"maps"
	"slices"

	"priceoffice/api"
)

// slot is a product in an outlet and a period.
type slot struct {
	outlet, product string
	period          int
}

// Candidates returns the last visit of each device to a slot.
func Candidates(list []api.Message, outlet, product string, period int) []api.Message {
	return candidates(about(list, slot{outlet, product, period}))
}

// Resolve returns the visit that counts for a slot, and a verdict.
func Resolve(list []api.Message, outlet, product string, period int) (api.Visit, int) {
	messages := about(list, slot{outlet, product, period})
	choices := candidates(messages)
	switch {
	case len(choices) == 0:
		return api.Visit{}, api.VerdictNone
	case agree(choices):
		return choices[0].Visit, api.VerdictVisit
	}
	if chosen, ok := decided(messages, choices); ok {
		return chosen, api.VerdictVisit
	}
	return api.Visit{}, api.VerdictDisputed
}

// about returns the messages about a slot that are neither invalid nor ignored.
func about(list []api.Message, place slot) []api.Message {
	messages := valid(list)
	cloned := clones(messages)
	return slices.DeleteFunc(messages, func(m api.Message) bool { return slotOf(m) != place || cloned[markOf(m)] })
}

func slotOf(m api.Message) slot {
	if m.Kind == api.MessageDecision {
		return slot{m.Decision.Outlet, m.Decision.Product, m.Decision.Period}
	}
	return slot{m.Visit.Outlet, m.Visit.Product, m.Visit.Period}
}

// candidates returns the last visit of each device among messages about one slot.
func candidates(messages []api.Message) []api.Message {
	last := map[string]api.Message{}
	for _, m := range messages {
		if m.Kind == api.MessageVisit && m.Sequence > last[m.Device].Sequence {
			last[m.Device] = m
		}
	}
	return slices.SortedFunc(maps.Values(last), by(deviceOf))
}

// agree reports whether all candidates have seen the same.
func agree(choices []api.Message) bool {
	for _, m := range choices {
		if seen(m.Visit) != seen(choices[0].Visit) {
			return false
		}
	}
	return true
}

// seen returns what candidates agree in: the day may differ.
func seen(v api.Visit) api.Visit {
	return api.Visit{Status: v.Status, Price: v.Price, Replacement: v.Replacement}
}

// decided returns the visit of the candidate that the last decision with an effect is for.
func decided(messages, choices []api.Message) (api.Visit, bool) {
	visits := map[api.Mark]api.Visit{}
	for _, m := range choices {
		visits[markOf(m)] = m.Visit
	}
	later := combined(by(sequenceOf), by(deviceOf))
	var last api.Message
	for _, m := range messages {
		if _, effective := visits[choice(m)]; effective && later(m, last) > 0 {
			last = m
		}
	}
	chosen, ok := visits[choice(last)]
	return chosen, ok
}

// choice returns the mark that a decision is for. That of a visit is no message's mark.
func choice(m api.Message) api.Mark {
	return api.Mark{Device: m.Decision.Device, Sequence: m.Decision.Number}
}
