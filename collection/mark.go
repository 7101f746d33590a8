package collection

import (
	"maps"
	"slices"

	"priceoffice/api"
)

// Cloned returns the marks that two different messages have.
func Cloned(list []api.Message) []api.Mark {
	return slices.SortedFunc(maps.Keys(clones(valid(list))), markOrder())
}

// Gaps returns the marks that are missing below the last one of each device.
func Gaps(list []api.Message) []api.Mark {
	sent, last := map[api.Mark]bool{}, map[string]int{}
	for _, m := range valid(list) {
		sent[markOf(m)] = true
		last[m.Device] = max(last[m.Device], m.Sequence)
	}
	var gaps []api.Mark
	for _, device := range slices.Sorted(maps.Keys(last)) {
		gaps = append(gaps, missing(device, last[device], sent)...)
	}
	return gaps
}

// missing returns the least marks of a device below its last one that were not sent.
func missing(device string, last int, sent map[api.Mark]bool) []api.Mark {
	var marks []api.Mark
	for number := 1; number < last && len(marks) < api.MaxMessages; number++ {
		mark := api.Mark{Device: device, Sequence: number}
		if !sent[mark] {
			marks = append(marks, mark)
		}
	}
	return marks
}

// clones returns the marks that two different ones of valid messages have.
func clones(messages []api.Message) map[api.Mark]bool {
	first, cloned := map[api.Mark]api.Message{}, map[api.Mark]bool{}
	for _, m := range messages {
		mark := markOf(m)
		if other, found := first[mark]; !found {
			first[mark] = m
		} else if other != m {
			cloned[mark] = true
		}
	}
	return cloned
}

func markOf(m api.Message) api.Mark {
	return api.Mark{Device: m.Device, Sequence: m.Sequence}
}
