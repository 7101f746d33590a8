package visit

import (
	"math/big"
	"math/rand/v2"
	"regexp"
	"slices"
	"testing"

	"priceoffice/api"
	"priceoffice/collection"
)

const (
	cola  = "96385074"
	tea   = "4006381333931"
	water = "00000000"
	juice = "10000007"
)

func seen(outlet, product string, period, status int, price int64, replacement string) api.Visit {
	return api.Visit{Outlet: outlet, Product: product, Period: period, Day: 36583, Status: status, Price: price, Replacement: replacement}
}

func priced(outlet, product string, period int, price int64) api.Visit {
	return seen(outlet, product, period, api.StatusPriced, price, "")
}

func sale(outlet, product string, period int, price int64) api.Visit {
	return seen(outlet, product, period, api.StatusSale, price, "")
}

func missing(outlet, product string, period int) api.Visit {
	return seen(outlet, product, period, api.StatusMissing, 0, "")
}

func gone(outlet, product string, period int) api.Visit {
	return seen(outlet, product, period, api.StatusGone, 0, "")
}

func replaced(outlet, product string, period int, price int64, replacement string) api.Visit {
	return seen(outlet, product, period, api.StatusReplaced, price, replacement)
}

func sent(device string, number int, v api.Visit) api.Message {
	return api.Message{Device: device, Sequence: number, Kind: api.MessageVisit, Visit: v}
}

// book has the messages that a device sends about visits, numbered from 1.
func book(device string, visits ...api.Visit) []api.Message {
	var list []api.Message
	for i, v := range visits {
		list = append(list, sent(device, i+1, v))
	}
	return list
}

// decides returns a decision about the slot of v for a message.
func decides(device string, number int, v api.Visit, other string, chosen int) api.Message {
	d := api.Decision{Outlet: v.Outlet, Product: v.Product, Period: v.Period, Device: other, Number: chosen}
	return api.Message{Device: device, Sequence: number, Kind: api.MessageDecision, Decision: d}
}

// space is where the messages of some tests are: sorted outlets and products, and ascending periods.
type space struct {
	outlets, products []string
	periods           []int
}

func small() space {
	return space{[]string{"n", "o"}, []string{water, juice, tea, cola}, []int{8, 9, 10, 11}}
}

// spaceOf has all slots that the messages of a list name, and those of the replacements.
func spaceOf(list []api.Message) space {
	s := space{[]string{""}, []string{""}, []int{-1}}
	for _, m := range list {
		s.outlets = append(s.outlets, m.Visit.Outlet, m.Decision.Outlet)
		s.products = append(s.products, m.Visit.Product, m.Decision.Product, m.Visit.Replacement)
		s.periods = append(s.periods, m.Visit.Period, m.Decision.Period)
	}
	slices.Sort(s.outlets)
	slices.Sort(s.products)
	slices.Sort(s.periods)
	return space{slices.Compact(s.outlets), slices.Compact(s.products), slices.Compact(s.periods)}
}

// place is a slot in tests.
type place struct {
	outlet, product string
	period          int
}

// record is what the layer collection says of each slot of a space, which is slow to ask again and again.
type record struct {
	space
	visits   map[place]api.Visit
	verdicts map[place]int
}

func (s space) read(list []api.Message) record {
	r := record{s, map[place]api.Visit{}, map[place]int{}}
	for _, p := range s.places() {
		r.visits[p], r.verdicts[p] = collection.Resolve(list, p.outlet, p.product, p.period)
	}
	return r
}

// places returns all slots of a space, sorted.
func (s space) places() []place {
	var list []place
	for _, outlet := range s.outlets {
		for _, product := range s.products {
			for _, period := range s.periods {
				list = append(list, place{outlet, product, period})
			}
		}
	}
	return list
}

func (r record) wantSeries(outlet, product string) []api.Visit {
	var series []api.Visit
	for _, period := range r.periods {
		if p := (place{outlet, product, period}); r.verdicts[p] == api.VerdictVisit {
			series = append(series, r.visits[p])
		}
	}
	return series
}

// letters writes the states of visits, one letter each.
func letters(series []api.Visit) string {
	text := ""
	for _, v := range series {
		letter := "?"
		if v.Status >= 1 && v.Status <= 5 {
			letter = string("psmgr"[v.Status-1])
		}
		text += letter
	}
	return text
}

var toEnd, lastEnd = regexp.MustCompile(`^[^gr]*[gr]?`), regexp.MustCompile(`[gr]?$`)

// wantEnd returns the number of visits up to the end of a series, and the letter of the visit that ends it.
func wantEnd(series []api.Visit) (int, string) {
	known := toEnd.FindString(letters(series))
	return len(known), lastEnd.FindString(known)
}

// lastRun has an expression for the last run of each state.
var lastRun = map[int]*regexp.Regexp{
	api.StateActive:   regexp.MustCompile(`[ps]+$`),
	api.StateMissing:  regexp.MustCompile(`m+$`),
	api.StateGone:     regexp.MustCompile(`g$`),
	api.StateReplaced: regexp.MustCompile(`r$`),
}

// wantState looks for the last run of like letters.
func wantState(series []api.Visit, period int) api.Status {
	var past []api.Visit
	for _, v := range series {
		if v.Period <= period {
			past = append(past, v)
		}
	}
	n, _ := wantEnd(past)
	text := letters(past[:n])
	for kind, run := range lastRun {
		at := run.FindStringIndex(text)
		if at == nil {
			continue
		}
		state := api.Status{Kind: kind, Since: past[at[0]].Period}
		if kind == api.StateReplaced {
			state.Replacement = past[at[0]].Replacement
		}
		return state
	}
	return api.Status{}
}

func (r record) wantReplacements(outlet, product string, before ...string) []string {
	chain := append(slices.Clone(before), product)
	series := r.wantSeries(outlet, product)
	if n, end := wantEnd(series); end == "r" && !slices.Contains(chain, series[n-1].Replacement) {
		return r.wantReplacements(outlet, series[n-1].Replacement, chain...)
	}
	return chain
}

// wantPrice returns the price of a slot, or 0.
func (r record) wantPrice(p place) int64 {
	series := r.wantSeries(p.outlet, p.product)
	n, end := wantEnd(series)
	if r.verdicts[p] != api.VerdictNone {
		for _, v := range series[:n] {
			if v.Period == p.period && (v.Status == api.StatusPriced || v.Status == api.StatusSale) {
				return v.Price
			}
		}
		return 0
	}
	if end != "" && series[n-1].Period < p.period {
		return 0
	}
	found := map[int64]bool{}
	var amount int64
	for _, old := range r.products {
		other := r.wantSeries(p.outlet, old)
		if n, end := wantEnd(other); end == "r" && other[n-1].Period == p.period && other[n-1].Replacement == p.product {
			amount = other[n-1].Price
			found[amount] = true
		}
	}
	if len(found) != 1 {
		return 0
	}
	return amount
}

// price is an observation with its price as text.
type price struct {
	outlet, product string
	period          int
	text            string
}

func (r record) wantObservations() []price {
	var prices []price
	for _, p := range r.places() {
		if n := r.wantPrice(p); n != 0 {
			prices = append(prices, price{p.outlet, p.product, p.period, big.NewInt(n).String()})
		}
	}
	return prices
}

func (r record) wantDisputed() []api.Visit {
	var slots []api.Visit
	for _, p := range r.places() {
		if r.verdicts[p] == api.VerdictDisputed {
			slots = append(slots, api.Visit{Outlet: p.outlet, Product: p.product, Period: p.period})
		}
	}
	return slots
}

// plain writes the prices of observations, which must be canonical, as text.
func plain(t *testing.T, list []api.Observation) []price {
	t.Helper()
	var prices []price
	for _, o := range list {
		limbs := o.Price.Num
		if o.Price.Neg || len(o.Price.Den) != 0 || len(limbs) == 0 || limbs[len(limbs)-1] == 0 {
			t.Errorf("%+v is not canonical", o)
		}
		n := new(big.Int)
		for i, limb := range limbs {
			n.Add(n, new(big.Int).Lsh(big.NewInt(int64(limb)), uint(32*i)))
		}
		prices = append(prices, price{o.Outlet, o.Product, o.Period, n.String()})
	}
	return prices
}

// randomVisit returns a visit of a slot of s.
func (s space) randomVisit(random *rand.Rand) api.Visit {
	outlet, product := s.outlets[random.IntN(len(s.outlets))], s.products[random.IntN(len(s.products))]
	period, amount := s.periods[random.IntN(len(s.periods))], int64(1+random.IntN(2))
	var v api.Visit
	switch random.IntN(9) {
	case 0, 1, 2:
		v = priced(outlet, product, period, amount)
	case 3:
		v = sale(outlet, product, period, amount)
	case 4:
		v = missing(outlet, product, period)
	case 5:
		v = gone(outlet, product, period)
	default:
		v = replaced(outlet, product, period, amount, s.products[random.IntN(len(s.products))])
	}
	v.Day += random.IntN(3)
	return v
}

// randomList returns visits, decisions, repeated messages, cloned marks, and messages that are not valid.
func (s space) randomList(random *rand.Rand, most int) []api.Message {
	var list []api.Message
	devices := []string{"a", "a", "a", "b", "c"}
	for range random.IntN(most + 1) {
		device, number, v := devices[random.IntN(5)], 1+len(list)+random.IntN(3)/2, s.randomVisit(random)
		switch random.IntN(24) {
		case 0:
			list = append(list, sent(device, 0, v))
		case 1:
			list = append(list, api.Message{Device: device, Sequence: number, Kind: 3, Visit: v})
		case 2, 3, 4:
			if len(list) > 0 {
				other := list[random.IntN(len(list))]
				list = append(list, decides(device, number, other.Visit, other.Device, other.Sequence), other)
			}
		case 5:
			rival := v
			rival.Price++
			list = append(list, sent("a", number, v), sent("b", number, rival))
		default:
			list = append(list, sent(device, number, v))
		}
	}
	return list
}
