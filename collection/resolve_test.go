package collection

import (
	"math"
	"math/rand/v2"
	"slices"
	"testing"

	"priceoffice/api"
)

func checkSlot(t *testing.T, list []api.Message, outlet, product string, period int) int {
	t.Helper()
	if got, want := Candidates(list, outlet, product, period), wantCandidates(list, outlet, product, period); !slices.Equal(got, want) {
		t.Errorf("%+v: Candidates of %s, %s, %d: %+v, want %+v", list, outlet, product, period, got, want)
	}
	want, verdict := wantResolve(list, outlet, product, period)
	if got, v := Resolve(list, outlet, product, period); got != want || v != verdict {
		t.Errorf("%+v: Resolve of %s, %s, %d: %+v, %d, want %+v, %d", list, outlet, product, period, got, v, want, verdict)
	}
	return verdict
}

// checkResolve has what is expected of the slot of visit, whatever the order and the repetition of the messages.
func checkResolve(t *testing.T, list, choices []api.Message, want api.Visit, verdict int) {
	t.Helper()
	back := slices.Clone(list)
	slices.Reverse(back)
	for _, messages := range [][]api.Message{list, back, slices.Concat(list, back), Merge(list, nil)} {
		if got := Candidates(messages, "o", cola, 5); !slices.Equal(got, choices) {
			t.Errorf("%+v: %+v", messages, got)
		}
		if got, v := Resolve(messages, "o", cola, 5); got != want || v != verdict {
			t.Errorf("%+v: %+v, %d", messages, got, v)
		}
		checkSlot(t, messages, "o", cola, 5)
	}
}

// TestTheExamples follows the document's story of one slot.
func TestTheExamples(t *testing.T) {
	a1, a2, b1 := priced("a", 1, 100), priced("a", 2, 120), priced("b", 1, 130)
	first, second, clone := decides("b", 2, "a", 1), decides("b", 3, "a", 2), priced("a", 2, 125)
	checkResolve(t, []api.Message{a1, a2}, []api.Message{a2}, a2.Visit, api.VerdictVisit)
	checkResolve(t, []api.Message{a1, a2, b1}, []api.Message{a2, b1}, api.Visit{}, api.VerdictDisputed)
	checkResolve(t, []api.Message{a1, a2, b1, first}, []api.Message{a2, b1}, api.Visit{}, api.VerdictDisputed)
	checkResolve(t, []api.Message{a1, a2, b1, first, second}, []api.Message{a2, b1}, a2.Visit, api.VerdictVisit)
	checkResolve(t, []api.Message{a1, a2, b1, second, clone}, []api.Message{a1, b1}, api.Visit{}, api.VerdictDisputed)
	checkResolve(t, []api.Message{a1, a2, b1, first, second, clone}, []api.Message{a1, b1}, a1.Visit, api.VerdictVisit)
}

func TestCandidatesAreOfTheirSlot(t *testing.T) {
	elsewhere := func(change func(v *api.Visit)) api.Message {
		m := priced("a", 9, 7)
		change(&m.Visit)
		return m
	}
	others := []api.Message{
		elsewhere(func(v *api.Visit) { v.Outlet = "p" }),
		elsewhere(func(v *api.Visit) { v.Product = tea }),
		elsewhere(func(v *api.Visit) { v.Period = 6 }),
		decides("a", 9, "a", 1),
	}
	a1, none := priced("a", 1, 100), api.Visit{}
	for _, other := range others {
		checkResolve(t, []api.Message{other}, nil, none, api.VerdictNone)
		checkResolve(t, []api.Message{a1, other}, []api.Message{a1}, a1.Visit, api.VerdictVisit)
		// A mark can be cloned by a message about another slot.
		other.Sequence = 1
		checkResolve(t, []api.Message{a1, other}, nil, none, api.VerdictNone)
	}
	checkResolve(t, nil, nil, none, api.VerdictNone)
}

func TestMessagesThatDoNotCount(t *testing.T) {
	a1, b1, none := priced("a", 1, 100), priced("b", 1, 130), api.Visit{}
	invalid := priced("a", 2, 0)
	checkResolve(t, []api.Message{invalid}, nil, none, api.VerdictNone)
	checkResolve(t, []api.Message{a1, invalid, priced("a", 1, 0), priced("A", 1, 7), priced("a", api.MaxSequence+1, 7)}, []api.Message{a1}, a1.Visit, api.VerdictVisit)
	// Neither do decisions that are not valid or ignored.
	checkResolve(t, []api.Message{a1, b1, decides("c", 0, "a", 1)}, []api.Message{a1, b1}, none, api.VerdictDisputed)
	checkResolve(t, []api.Message{a1, b1, decides("c", 1, "a", 1), decides("c", 1, "b", 1)}, []api.Message{a1, b1}, none, api.VerdictDisputed)
	checkResolve(t, []api.Message{a1, b1, decides("c", 1, "a", 1), decides("c", 2, "b", 1), decides("c", 2, "b", 2)}, []api.Message{a1, b1}, a1.Visit, api.VerdictVisit)
	checkResolve(t, []api.Message{a1, b1, decides("b", 1, "a", 1)}, []api.Message{a1}, a1.Visit, api.VerdictVisit)
}

func TestCandidatesThatAgree(t *testing.T) {
	states := []api.Visit{visit(1, 100, ""), visit(1, 120, ""), visit(2, 100, ""), visit(3, 0, ""), visit(4, 0, ""), visit(5, 100, water), visit(5, 100, tea), visit(5, 120, water)}
	for i, v := range states {
		for k, w := range states {
			later := w
			later.Day += 7
			// The candidates are compared with each other, not only with the next one.
			list := []api.Message{sent("a", 4, v), sent("b", 3, v), sent("c", 5, later)}
			if i == k {
				checkResolve(t, list, list, v, api.VerdictVisit)
			} else {
				checkResolve(t, list, list, api.Visit{}, api.VerdictDisputed)
			}
		}
	}
	// The visit is that of the first device, also if its day is later or a decision is for another one.
	day := priced("a", 9, 100)
	day.Visit.Day = 40000
	list := []api.Message{day, priced("b", 3, 100)}
	checkResolve(t, append(list, decides("c", 1, "b", 3)), list, day.Visit, api.VerdictVisit)
}

func TestDecisions(t *testing.T) {
	a2, b7 := priced("a", 2, 120), priced("b", 7, 130)
	both := []api.Message{a2, b7}
	elsewhere := func(change func(d *api.Decision)) api.Message {
		m := decides("c", 9, "a", 2)
		change(&m.Decision)
		return m
	}
	for i, x := range []struct {
		decisions []api.Message
		want      api.Visit
		verdict   int
	}{
		{[]api.Message{decides("c", 1, "a", 2)}, a2.Visit, 1},
		{[]api.Message{decides("c", 1, "b", 7)}, b7.Visit, 1},
		// Everyone can decide, also the device itself and one without a visit of its own.
		{[]api.Message{decides("a", 1, "a", 2)}, a2.Visit, 1},
		{[]api.Message{decides("a", 3, "b", 7)}, b7.Visit, 1},
		// The greatest number decides, whatever the devices; of equal ones the greatest device.
		{[]api.Message{decides("c", 1, "a", 2), decides("c", 2, "b", 7)}, b7.Visit, 1},
		{[]api.Message{decides("c", 10, "a", 2), decides("c", 9, "b", 7)}, a2.Visit, 1},
		{[]api.Message{decides("z", 1, "a", 2), decides("c", 2, "b", 7)}, b7.Visit, 1},
		{[]api.Message{decides("c", 5, "a", 2), decides("d", 5, "b", 7)}, b7.Visit, 1},
		{[]api.Message{decides("d", 5, "a", 2), decides("c", 5, "b", 7)}, a2.Visit, 1},
		{[]api.Message{decides("c", 5, "a", 2), decides("c.", 5, "b", 7), decides("cc", 4, "a", 2)}, b7.Visit, 1},
		// A later one for no candidate has no effect.
		{[]api.Message{decides("c", 1, "a", 2), decides("c", 2, "b", 6), decides("c", 3, "c", 7), decides("c", 4, "a", 7), decides("c", 5, "b", 2)}, a2.Visit, 1},
		{[]api.Message{decides("c", 2, "b", 6)}, api.Visit{}, 2},
		{[]api.Message{decides("c", 2, "c", 2)}, api.Visit{}, 2},
		// Neither has one for another slot.
		{[]api.Message{elsewhere(func(d *api.Decision) { d.Outlet = "p" })}, api.Visit{}, 2},
		{[]api.Message{elsewhere(func(d *api.Decision) { d.Product = tea })}, api.Visit{}, 2},
		{[]api.Message{elsewhere(func(d *api.Decision) { d.Period = 6 })}, api.Visit{}, 2},
		{[]api.Message{elsewhere(func(d *api.Decision) { d.Period = 6 }), decides("c", 1, "b", 7)}, b7.Visit, 1},
	} {
		list := slices.Concat(both, x.decisions)
		checkResolve(t, list, both, x.want, x.verdict)
		if t.Failed() {
			t.Fatal(i)
		}
	}
}

// TestAnySlot asks for slots that no valid message has, though some messages of the list seem to have them.
func TestAnySlot(t *testing.T) {
	list := []api.Message{priced("a", 1, 100), {}, {Device: "a", Sequence: 2, Kind: api.MessageVisit}, {Device: "a", Sequence: 3, Kind: api.MessageDecision}, decides("a", 4, "a", 1)}
	for _, outlet := range []string{"", "o", "O", "p", "\xff"} {
		for _, product := range []string{"", cola, "96385073", tea} {
			for _, period := range []int{math.MinInt, -1, 0, 5, 6, 6000, math.MaxInt} {
				verdict := checkSlot(t, list, outlet, product, period)
				if (verdict != api.VerdictNone) != (outlet == "o" && product == cola && period == 5) {
					t.Error(outlet, product, period, verdict)
				}
			}
		}
	}
}

// TestTheSetOfValidMessagesDecides has the consequence: order, repetition and messages that are not valid do not matter.
func TestTheSetOfValidMessagesDecides(t *testing.T) {
	random := rand.New(rand.NewPCG(5, 32))
	verdicts := map[int]int{}
	for range 10000 {
		list := randomList(random, 14)
		verdicts[checkSlot(t, list, "o", cola, 5)]++
		checkSlot(t, list, "p", tea, 6)
		again := slices.Concat(list, Merge(list, nil), []api.Message{{}, priced("a", 1, 0)})
		random.Shuffle(len(again), func(i, k int) { again[i], again[k] = again[k], again[i] })
		for _, same := range [][]api.Message{again, Merge(nil, list)} {
			v, verdict := Resolve(same, "o", cola, 5)
			w, want := Resolve(list, "o", cola, 5)
			if v != w || verdict != want || !slices.Equal(Candidates(same, "o", cola, 5), Candidates(list, "o", cola, 5)) || !slices.Equal(Cloned(same), Cloned(list)) || !slices.Equal(Gaps(same), Gaps(list)) {
				t.Errorf("%+v and %+v differ", same, list)
			}
		}
	}
	if verdicts[api.VerdictNone] < 500 || verdicts[api.VerdictVisit] < 500 || verdicts[api.VerdictDisputed] < 500 {
		t.Error("the lists are too plain", verdicts)
	}
}
