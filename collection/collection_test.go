package collection

import (
	"math"
	"math/rand/v2"
	"strings"
	"testing"

	"priceoffice/api"
)

func checkMessage(t *testing.T, m api.Message) {
	t.Helper()
	if e, want := Validate(m), verdict(m); e != want {
		t.Errorf("%+v: %v, want %v", m, e, want)
	}
}

func checkMessageIs(t *testing.T, m api.Message, want api.Errno) {
	t.Helper()
	if e := Validate(m); e != want {
		t.Errorf("%+v: %v, want %v", m, e, want)
	}
	checkMessage(t, m)
}

// TestErrorsInTheirOrder breaks every set of the conditions: the error is that of the first one.
func TestErrorsInTheirOrder(t *testing.T) {
	shared := []func(m *api.Message){
		func(m *api.Message) { m.Device = "A" },
		func(m *api.Message) { m.Sequence = 0 },
		func(m *api.Message) { m.Kind += 2 },
	}
	ofVisits := append(shared[:3:3], func(m *api.Message) { m.Visit.Status = 6 }, func(m *api.Message) { m.Decision.Number = 1 })
	ofDecisions := append(shared[:3:3], func(m *api.Message) { m.Visit.Day = 1 }, func(m *api.Message) { m.Decision.Device = "" })
	errors := []api.Errno{api.ErrCollectionDevice, api.ErrCollectionSequence, api.ErrCollectionKind, api.ErrCollectionVisit, api.ErrCollectionDecision, api.OK}
	for i, breaks := range [][]func(m *api.Message){ofVisits, ofDecisions} {
		for set := range 1 << len(breaks) {
			m, first := priced("a", 1, 100), len(breaks)
			if i == 1 {
				m = decides("a", 1, "b", 2)
			}
			for k, change := range breaks {
				if set>>k&1 == 1 {
					change(&m)
					first = min(first, k)
				}
			}
			checkMessageIs(t, m, errors[first])
		}
	}
	checkMessageIs(t, api.Message{}, api.ErrCollectionDevice)
	checkMessageIs(t, api.Message{Device: "a"}, api.ErrCollectionSequence)
	checkMessageIs(t, api.Message{Device: "a", Sequence: 1}, api.ErrCollectionKind)
	checkMessageIs(t, api.Message{Device: "a", Sequence: 1, Kind: api.MessageVisit}, api.ErrCollectionVisit)
	checkMessageIs(t, api.Message{Device: "a", Sequence: 1, Kind: api.MessageDecision}, api.ErrCollectionDecision)
}

// names returns strings, some of which are names.
func names() []string {
	list := []string{"", "a", "0", "a.-0", "-", ".a", "A", "a b", "\u00e4", "a\n", "o\x00", strings.Repeat("z", 1<<16)}
	for n := 22; n < 28; n++ {
		list = append(list, strings.Repeat("z", n))
	}
	return list
}

func TestNamesOfMessages(t *testing.T) {
	for _, s := range names() {
		of := func(e api.Errno) api.Errno {
			if nameForm.MatchString(s) {
				return api.OK
			}
			return e
		}
		checkMessageIs(t, priced(s, 1, 100), of(api.ErrCollectionDevice))
		checkMessageIs(t, decides(s, 1, "b", 2), of(api.ErrCollectionDevice))
		v := visit(api.StatusSale, 1, "")
		v.Outlet = s
		checkMessageIs(t, sent("a", 1, v), of(api.ErrCollectionVisit))
		checkMessageIs(t, decides("a", 1, s, 2), of(api.ErrCollectionDecision))
		d := decides("a", 1, "b", 2)
		d.Decision.Outlet = s
		checkMessageIs(t, d, of(api.ErrCollectionDecision))
	}
}

func TestIDsOfMessages(t *testing.T) {
	for _, id := range []string{cola, tea, water, "", "96385073", "4006381333930", "9638507", "963850740", " 96385074", "o", "0000000000000", "٩٦٣٨"} {
		if wantID(id) != (id == cola || id == tea || id == water || id == "0000000000000") {
			t.Error("the description is wrong", id)
		}
		v := visit(api.StatusMissing, 0, "")
		v.Product = id
		checkMessage(t, sent("a", 1, v))
		d := decides("a", 1, "b", 2)
		d.Decision.Product = id
		checkMessage(t, d)
		checkMessage(t, sent("a", 1, visit(api.StatusReplaced, 100, id)))
	}
	checkMessageIs(t, sent("a", 1, visit(api.StatusReplaced, 100, tea)), api.OK)
	checkMessageIs(t, sent("a", 1, visit(api.StatusReplaced, 100, cola)), api.ErrCollectionVisit)
	checkMessageIs(t, sent("a", 1, visit(api.StatusReplaced, 100, "")), api.ErrCollectionVisit)
	checkMessageIs(t, sent("a", 1, visit(api.StatusReplaced, 100, "96385073")), api.ErrCollectionVisit)
}

func TestNumbersOfMessages(t *testing.T) {
	for _, n := range []int{math.MinInt, -1, 0, 1, 2, 400, 5998, 5999, 6000, 6001, 182619, 182620, 182621, api.MaxSequence - 1, api.MaxSequence, api.MaxSequence + 1, 1<<32 + 1, math.MaxInt} {
		checkMessage(t, priced("a", n, 100))
		checkMessage(t, decides("a", n, "b", 2))
		checkMessage(t, decides("a", 1, "b", n))
		v, d := priced("a", 1, 100), decides("a", 1, "b", 2)
		v.Visit.Period, d.Decision.Period = n, n
		checkMessage(t, v)
		checkMessage(t, d)
		v.Visit.Period, v.Visit.Day = 5, n
		checkMessage(t, v)
		v.Visit.Day, v.Kind, d.Kind = 5, n, n
		checkMessage(t, v)
		checkMessage(t, d)
	}
	checkMessageIs(t, priced("a", api.MaxSequence, 100), api.OK)
	checkMessageIs(t, priced("a", api.MaxSequence+1, 100), api.ErrCollectionSequence)
	checkMessageIs(t, decides("a", 1, "b", api.MaxSequence), api.OK)
	checkMessageIs(t, decides("a", 1, "b", api.MaxSequence+1), api.ErrCollectionDecision)
}

func TestStatesPricesAndReplacements(t *testing.T) {
	prices := []int64{math.MinInt64, -1, 0, 1, 2, api.MaxPrice - 1, api.MaxPrice, api.MaxPrice + 1, math.MaxInt64}
	for status := -1; status < 8; status++ {
		for _, price := range prices {
			for _, replacement := range []string{"", cola, tea, water, "96385073", "x"} {
				checkMessage(t, sent("a", 1, visit(status, price, replacement)))
			}
		}
	}
	for _, v := range []api.Visit{visit(1, 1, ""), visit(2, api.MaxPrice, ""), visit(3, 0, ""), visit(4, 0, ""), visit(5, api.MaxPrice, tea)} {
		checkMessageIs(t, sent("a", 1, v), api.OK)
	}
	for _, v := range []api.Visit{visit(1, 0, ""), visit(2, api.MaxPrice+1, ""), visit(3, 1, ""), visit(4, 1, ""), visit(5, 0, tea), visit(3, 0, tea), visit(4, 0, tea), visit(1, 1, tea), visit(2, 1, tea), visit(0, 0, ""), visit(6, 0, "")} {
		checkMessageIs(t, sent("a", 1, v), api.ErrCollectionVisit)
	}
}

// TestTheOtherPartIsZero fills each field of the part that the kind does not have.
func TestTheOtherPartIsZero(t *testing.T) {
	for _, v := range []api.Visit{{Outlet: "o"}, {Product: cola}, {Period: 1}, {Day: 1}, {Status: 1}, {Price: 1}, {Replacement: tea}, visit(1, 1, ""), {Outlet: "\x00"}} {
		m := decides("a", 1, "b", 2)
		m.Visit = v
		checkMessageIs(t, m, api.ErrCollectionVisit)
		m.Decision.Number = 0
		checkMessageIs(t, m, api.ErrCollectionVisit)
	}
	for _, d := range []api.Decision{{Outlet: "o"}, {Product: cola}, {Period: 1}, {Device: "b"}, {Number: 1}, {Number: -1}, decides("a", 1, "b", 2).Decision} {
		m := priced("a", 1, 100)
		m.Decision = d
		checkMessageIs(t, m, api.ErrCollectionDecision)
		m.Visit.Status = 0
		checkMessageIs(t, m, api.ErrCollectionVisit)
	}
}

func TestRandomMessages(t *testing.T) {
	random := rand.New(rand.NewPCG(1, 32))
	count := map[api.Errno]int{}
	for range 5000 {
		m := randomMessage(random)
		checkMessage(t, m)
		count[Validate(m)]++
	}
	if len(count) != 6 {
		t.Error("some error is missing", count)
	}
}
