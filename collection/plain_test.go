package collection

import (
	"fmt"
	"math/rand/v2"
	"regexp"
	"slices"
	"strings"

	"priceoffice/api"
)

const (
	cola  = "96385074"
	tea   = "4006381333931"
	water = "00000000"
)

func visit(status int, price int64, replacement string) api.Visit {
	return api.Visit{Outlet: "o", Product: cola, Period: 5, Day: 36583, Status: status, Price: price, Replacement: replacement}
}

func sent(device string, number int, v api.Visit) api.Message {
	return api.Message{Device: device, Sequence: number, Kind: api.MessageVisit, Visit: v}
}

func priced(device string, number int, price int64) api.Message {
	return sent(device, number, visit(api.StatusPriced, price, ""))
}

func decides(device string, number int, other string, chosen int) api.Message {
	d := api.Decision{Outlet: "o", Product: cola, Period: 5, Device: other, Number: chosen}
	return api.Message{Device: device, Sequence: number, Kind: api.MessageDecision, Decision: d}
}

func mark(device string, number int) api.Mark {
	return api.Mark{Device: device, Sequence: number}
}

var nameForm = regexp.MustCompile(`\A[a-z0-9][a-z0-9.-]{0,23}\z`)

// wantID is the definition of an ID.
func wantID(id string) bool {
	if strings.Trim(id, "0123456789") != "" || len(id) != 8 && len(id) != 13 {
		return false
	}
	sum := 0
	for i := range id {
		weight := 1
		if (len(id)-i)%2 == 0 {
			weight = 3
		}
		sum += weight * int(id[i]-'0')
	}
	return sum%10 == 0
}

func wantSlot(outlet, product string, period int) bool {
	return nameForm.MatchString(outlet) && wantID(product) && 0 <= period && period <= 5999
}

func wantVisit(v api.Visit) bool {
	if !wantSlot(v.Outlet, v.Product, v.Period) || v.Day < 0 || v.Day > 182620 || v.Status < 1 || v.Status > 5 {
		return false
	}
	if v.Status == 1 || v.Status == 2 || v.Status == 5 {
		if v.Price < 1 || v.Price > 1<<40 {
			return false
		}
	} else if v.Price != 0 {
		return false
	}
	if v.Status == 5 {
		return wantID(v.Replacement) && v.Replacement != v.Product
	}
	return v.Replacement == ""
}

func wantDecision(d api.Decision) bool {
	return wantSlot(d.Outlet, d.Product, d.Period) && nameForm.MatchString(d.Device) && 1 <= d.Number && d.Number <= 1<<20
}

// verdict describes the errors of messages independently of the package.
func verdict(m api.Message) api.Errno {
	visits, decisions := m.Kind == 1, m.Kind == 2
	if !nameForm.MatchString(m.Device) {
		return api.ErrCollectionDevice
	}
	if m.Sequence < 1 || m.Sequence > 1<<20 {
		return api.ErrCollectionSequence
	}
	if !visits && !decisions {
		return api.ErrCollectionKind
	}
	if visits && !wantVisit(m.Visit) || decisions && m.Visit != (api.Visit{}) {
		return api.ErrCollectionVisit
	}
	if decisions && !wantDecision(m.Decision) || visits && m.Decision != (api.Decision{}) {
		return api.ErrCollectionDecision
	}
	return api.OK
}

// place returns a text of fixed length for a valid message; bytewise, these texts are in the order of messages.
func place(m api.Message) string {
	v, d := m.Visit, m.Decision
	return fmt.Sprintf("%-24s%8d%2d|%-24s%-13s%5d%7d%2d%14d%-13s|%-24s%-13s%5d%-24s%8d",
		m.Device, m.Sequence, m.Kind, v.Outlet, v.Product, v.Period, v.Day, v.Status, v.Price, v.Replacement, d.Outlet, d.Product, d.Period, d.Device, d.Number)
}

// wantMerge returns the valid messages, each once, in their order.
func wantMerge(list []api.Message) []api.Message {
	var messages []api.Message
	for _, m := range list {
		if verdict(m) == api.OK && !slices.Contains(messages, m) {
			messages = append(messages, m)
		}
	}
	slices.SortFunc(messages, func(a, b api.Message) int { return strings.Compare(place(a), place(b)) })
	return messages
}

// wantIgnored reports whether a message's mark is cloned, by a search in merged messages.
func wantIgnored(merged []api.Message, m api.Message) bool {
	return slices.ContainsFunc(merged, func(other api.Message) bool {
		return other.Device == m.Device && other.Sequence == m.Sequence && other != m
	})
}

func wantCloned(list []api.Message) []api.Mark {
	merged := wantMerge(list)
	var marks []api.Mark
	for _, m := range merged {
		if wantIgnored(merged, m) {
			marks = append(marks, mark(m.Device, m.Sequence))
		}
	}
	return slices.Compact(marks)
}

// wantGaps looks for every number of each device, up to its greatest one.
func wantGaps(list []api.Message) []api.Mark {
	merged := wantMerge(list)
	var marks []api.Mark
	for i, m := range merged {
		if i+1 < len(merged) && merged[i+1].Device == m.Device {
			continue
		}
		count := 0
		for number := 1; number <= m.Sequence; number++ {
			sent := slices.ContainsFunc(merged, func(other api.Message) bool { return other.Device == m.Device && other.Sequence == number })
			if !sent && count < 400 {
				marks = append(marks, mark(m.Device, number))
				count++
			}
		}
	}
	return marks
}

func wantCandidates(list []api.Message, outlet, product string, period int) []api.Message {
	merged := wantMerge(list)
	var choices []api.Message
	for _, m := range merged {
		v := m.Visit
		if m.Kind != 1 || v.Outlet != outlet || v.Product != product || v.Period != period || wantIgnored(merged, m) {
			continue
		}
		if n := len(choices); n > 0 && choices[n-1].Device == m.Device {
			choices = choices[:n-1]
		}
		choices = append(choices, m)
	}
	return choices
}

func wantResolve(list []api.Message, outlet, product string, period int) (api.Visit, int) {
	choices := wantCandidates(list, outlet, product, period)
	if len(choices) == 0 {
		return api.Visit{}, 0
	}
	first, same := choices[0].Visit, true
	for _, m := range choices {
		v := m.Visit
		same = same && v.Status == first.Status && v.Price == first.Price && v.Replacement == first.Replacement
	}
	if same {
		return first, 1
	}
	merged := wantMerge(list)
	var best api.Message
	var visit api.Visit
	for _, m := range merged {
		d := m.Decision
		if m.Kind != 2 || d.Outlet != outlet || d.Product != product || d.Period != period || wantIgnored(merged, m) {
			continue
		}
		for _, choice := range choices {
			// Of merged messages with equal numbers, the later one has the greater device.
			if d.Device == choice.Device && d.Number == choice.Sequence && m.Sequence >= best.Sequence {
				best, visit = m, choice.Visit
			}
		}
	}
	if best.Kind == 0 {
		return api.Visit{}, 2
	}
	return visit, 1
}

// randomMessage returns a message of few devices, numbers and slots; it is mostly valid.
func randomMessage(random *rand.Rand) api.Message {
	pick := func(words ...string) string { return words[random.IntN(len(words))] }
	outlet, product, period := pick("o", "o", "o", "p"), pick(cola, cola, cola, tea), 5+random.IntN(8)/7
	device, number := pick("a", "aa", "b", "c"), 1+random.IntN(6)
	var m api.Message
	if random.IntN(4) == 0 {
		m = decides(device, number, pick("a", "aa", "b", "c"), 1+random.IntN(6))
		m.Decision.Outlet, m.Decision.Product, m.Decision.Period = outlet, product, period
	} else {
		kinds := []api.Visit{visit(1, 100, ""), visit(1, 100, ""), visit(1, 120, ""), visit(2, 100, ""), visit(3, 0, ""), visit(4, 0, ""), visit(5, 100, water), visit(5, 100, water), visit(5, 100, "12345670")}
		v := kinds[random.IntN(len(kinds))]
		v.Outlet, v.Product, v.Period, v.Day = outlet, product, period, 36583+random.IntN(2)
		m = sent(device, number, v)
	}
	spoil(random, &m)
	return m
}

// spoil makes some messages invalid.
func spoil(random *rand.Rand, m *api.Message) {
	switch random.IntN(60) {
	case 0:
		m.Sequence = 0
	case 1:
		m.Kind = 3
	case 2:
		m.Visit.Price = -1
	case 3:
		m.Decision.Number = -1
	case 4:
		m.Device = "A"
	}
}

func randomList(random *rand.Rand, most int) []api.Message {
	var list []api.Message
	for range random.IntN(most + 1) {
		list = append(list, randomMessage(random))
		if random.IntN(5) == 0 {
			list = append(list, list[random.IntN(len(list))])
		}
	}
	return list
}
