package collection

import (
	"cmp"
	"slices"

	"priceoffice/api"
)

// comparison returns a number below, equal to or above 0 if a is before, like or behind b.
type comparison[T any] func(a, b T) int

// Merge returns the union of two lists of messages.
func Merge(a, b []api.Message) []api.Message {
	merged := append(valid(a), valid(b)...)
	slices.SortFunc(merged, messageOrder())
	// The order looks at all parts of a message, so equal messages are neighbours.
	return slices.Compact(merged)
}

func messageOrder() comparison[api.Message] {
	return combined(
		by(deviceOf), by(sequenceOf), by(func(m api.Message) int { return m.Kind }),
		by(func(m api.Message) string { return m.Visit.Outlet }),
		by(func(m api.Message) string { return m.Visit.Product }),
		by(func(m api.Message) int { return m.Visit.Period }),
		by(func(m api.Message) int { return m.Visit.Day }),
		by(func(m api.Message) int { return m.Visit.Status }),
		by(func(m api.Message) int64 { return m.Visit.Price }),
		by(func(m api.Message) string { return m.Visit.Replacement }),
		by(func(m api.Message) string { return m.Decision.Outlet }),
		by(func(m api.Message) string { return m.Decision.Product }),
		by(func(m api.Message) int { return m.Decision.Period }),
		by(func(m api.Message) string { return m.Decision.Device }),
		by(func(m api.Message) int { return m.Decision.Number }),
	)
}

func deviceOf(m api.Message) string { return m.Device }

func sequenceOf(m api.Message) int { return m.Sequence }

func markOrder() comparison[api.Mark] {
	return combined(
		by(func(m api.Mark) string { return m.Device }),
		by(func(m api.Mark) int { return m.Sequence }),
	)
}

// combined returns the comparison by the first one of a list that tells two values apart.
func combined[T any](list ...comparison[T]) comparison[T] {
	return func(a, b T) int {
		for _, compare := range list {
			if c := compare(a, b); c != 0 {
				return c
			}
		}
		return 0
	}
}

// by returns the comparison by one part of the values.
func by[T any, K cmp.Ordered](part func(value T) K) comparison[T] {
	return func(a, b T) int { return cmp.Compare(part(a), part(b)) }
}
