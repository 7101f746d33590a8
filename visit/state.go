package visit

import "priceoffice/api"

// StateAt returns the state in a period.
func StateAt(series []api.Visit, period int) api.Status {
	known := upToEnd(upToPeriod(series, period))
	if len(known) == 0 {
		return api.Status{}
	}
	last := known[len(known)-1]
	state := api.Status{Kind: kindOf(last)}
	if state.Kind == api.StateUnknown {
		return state
	}
	if state.Kind == api.StateReplaced {
		state.Replacement = last.Replacement
	}
	for i := len(known) - 1; i >= 0 && kindOf(known[i]) == state.Kind; i-- {
		state.Since = known[i].Period
	}
	return state
}

// upToPeriod returns the visits of a series that are not after a period.
func upToPeriod(series []api.Visit, period int) []api.Visit {
	var known []api.Visit
	for _, v := range series {
		if v.Period <= period {
			known = append(known, v)
		}
	}
	return known
}

// kindOf returns the kind of state that a visit leads to.
func kindOf(v api.Visit) int {
	switch v.Status {
	case api.StatusPriced, api.StatusSale:
		return api.StateActive
	case api.StatusMissing:
		return api.StateMissing
	case api.StatusGone:
		return api.StateGone
	case api.StatusReplaced:
		return api.StateReplaced
	}
	return api.StateUnknown
}
