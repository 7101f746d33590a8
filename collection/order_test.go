package collection

import (
	"math/rand/v2"
	"slices"
	"testing"

	"priceoffice/api"
)

func checkMerge(t *testing.T, a, b []api.Message) {
	t.Helper()
	want := wantMerge(slices.Concat(a, b))
	if got := Merge(a, b); !slices.Equal(got, want) {
		t.Errorf("%+v and %+v: %+v, want %+v", a, b, got, want)
	}
}

// visitLadder returns visits of device a as number 1 in ascending order. Each one is greater than the one before in
// one part, and less in the parts behind it, as far as these can be.
func visitLadder() []api.Message {
	var list []api.Message
	add := func(outlet, product string, period, day, status int, price int64, replacement string) {
		list = append(list, sent("a", 1, api.Visit{Outlet: outlet, Product: product, Period: period, Day: day, Status: status, Price: price, Replacement: replacement}))
	}
	add("o", tea, 5, 7, api.StatusPriced, 9, "")
	add("o", tea, 5, 7, api.StatusPriced, 10, "")
	add("o", tea, 5, 7, api.StatusSale, 1, "")
	add("o", tea, 5, 7, api.StatusMissing, 0, "")
	add("o", tea, 5, 7, api.StatusGone, 0, "")
	add("o", tea, 5, 7, api.StatusReplaced, 9, water)
	add("o", tea, 5, 7, api.StatusReplaced, 9, "0000000000000")
	add("o", tea, 5, 7, api.StatusReplaced, 9, cola)
	add("o", tea, 5, 7, api.StatusReplaced, 10, water)
	add("o", tea, 5, 8, api.StatusPriced, 1, "")
	add("o", tea, 5, 10, api.StatusPriced, 1, "")
	add("o", tea, 6, 0, api.StatusPriced, 1, "")
	add("o", tea, 10, 0, api.StatusPriced, 1, "")
	add("o", cola, 0, 0, api.StatusPriced, 1, "")
	add("o.", water, 0, 0, api.StatusPriced, 1, "")
	add("o0", water, 0, 0, api.StatusPriced, 1, "")
	add("p", water, 0, 0, api.StatusPriced, 1, "")
	return list
}

// decisionLadder is the like for decisions.
func decisionLadder() []api.Message {
	var list []api.Message
	add := func(outlet, product string, period int, device string, number int) {
		d := api.Decision{Outlet: outlet, Product: product, Period: period, Device: device, Number: number}
		list = append(list, api.Message{Device: "a", Sequence: 1, Kind: api.MessageDecision, Decision: d})
	}
	add("a", tea, 5, "b", 9)
	add("a", tea, 5, "b", 10)
	add("a", tea, 5, "b-", 1)
	add("a", tea, 5, "ba", 1)
	add("a", tea, 6, "a", 1)
	add("a", tea, 10, "a", 1)
	add("a", cola, 0, "a", 1)
	add("a-", water, 0, "a", 1)
	add("b", water, 0, "a", 1)
	return list
}

func ladder() []api.Message {
	list := append(visitLadder(), decisionLadder()...)
	return append(list, priced("a", 2, 1), decides("a", 2, "a", 1), priced("a", 9, 1), priced("a", 10, 1), priced("a-", 1, 1), priced("a.", 1, 1), priced("a0", 1, 1), priced("aa", 1, 1), priced("b", 1, 1))
}

func TestTheOrderOfMessages(t *testing.T) {
	list := ladder()
	for i, m := range list {
		checkMessageIs(t, m, api.OK)
		for _, before := range list[:i] {
			want := []api.Message{before, m}
			for _, x := range [][2][]api.Message{{{m, before}, nil}, {want, nil}, {nil, {m, before}}, {{m}, {before}}, {{before}, {m}}, {{m, before, m}, want}} {
				if got := Merge(x[0], x[1]); !slices.Equal(got, want) {
					t.Errorf("%+v", got)
				}
			}
			checkMerge(t, []api.Message{m}, want)
		}
	}
	shuffled := slices.Concat(list, list)
	random := rand.New(rand.NewPCG(2, 32))
	for range 100 {
		random.Shuffle(len(shuffled), func(i, k int) { shuffled[i], shuffled[k] = shuffled[k], shuffled[i] })
		if got := Merge(shuffled[:20], shuffled[20:]); !slices.Equal(got, list) {
			t.Errorf("%+v", got)
		}
	}
}

func TestMergeTakesValidMessages(t *testing.T) {
	good := priced("a", 1, 100)
	bad := []api.Message{{}, priced("", 1, 1), priced("A", 1, 1), priced("a", 0, 1), priced("a", 1, 0), decides("a", 1, "", 1), decides("a", 1, "b", 0), {Device: "a", Sequence: 1, Kind: 3}}
	for _, x := range [][2][]api.Message{{nil, nil}, {bad, nil}, {nil, bad}, {bad, bad}, {{}, {}}} {
		if got := Merge(x[0], x[1]); len(got) != 0 {
			t.Errorf("%+v", got)
		}
	}
	for _, x := range [][2][]api.Message{{{good}, nil}, {nil, {good}}, {{good}, {good}}, {append(bad, good), bad}, {bad, append([]api.Message{good, good}, bad...)}} {
		if got := Merge(x[0], x[1]); !slices.Equal(got, []api.Message{good}) {
			t.Errorf("%+v", got)
		}
	}
}

// TestMergeIsAUnion has the consequences: Merge is commutative, associative and idempotent.
func TestMergeIsAUnion(t *testing.T) {
	random := rand.New(rand.NewPCG(3, 32))
	for range 2000 {
		a, b, c := randomList(random, 8), randomList(random, 8), randomList(random, 8)
		checkMerge(t, a, b)
		ab := Merge(a, b)
		if !slices.Equal(ab, Merge(b, a)) || !slices.Equal(Merge(ab, c), Merge(a, Merge(b, c))) {
			t.Errorf("the order of %+v, %+v and %+v matters", a, b, c)
		}
		if !slices.Equal(Merge(ab, ab), ab) || !slices.Equal(Merge(ab, nil), ab) || !slices.Equal(Merge(ab, b), ab) {
			t.Errorf("the repetition of %+v and %+v matters", a, b)
		}
	}
}
