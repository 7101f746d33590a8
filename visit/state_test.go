package visit

import (
	"math"
	"math/rand/v2"
	"testing"

	"priceoffice/api"
)

func checkState(t *testing.T, series []api.Visit, period int) api.Status {
	t.Helper()
	got := StateAt(series, period)
	if want := wantState(series, period); got != want {
		t.Errorf("%+v, %d: %+v, want %+v", series, period, got, want)
	}
	return got
}

// checkStates has the states of a series in a first period and the ones behind it.
func checkStates(t *testing.T, series []api.Visit, first int, want ...api.Status) {
	t.Helper()
	for i, state := range want {
		if got := checkState(t, series, first+i); got != state {
			t.Errorf("%+v, %d: %+v, want %+v", series, first+i, got, state)
		}
	}
}

func active(since int) api.Status { return api.Status{Kind: api.StateActive, Since: since} }

func missed(since int) api.Status { return api.Status{Kind: api.StateMissing, Since: since} }

func ended(since int) api.Status { return api.Status{Kind: api.StateGone, Since: since} }

func followed(since int, by string) api.Status {
	return api.Status{Kind: api.StateReplaced, Since: since, Replacement: by}
}

func TestStatesOfTheExample(t *testing.T) {
	none := api.Status{}
	checkStates(t, story(), 8, none, none, active(10), active(10), missed(12), followed(13, tea), followed(13, tea))
	for _, period := range []int{math.MinInt, -1, 0, 1 << 40, math.MaxInt} {
		for n := range 5 {
			checkState(t, story()[:n], period)
		}
	}
	checkStates(t, nil, 0, none, none)
	checkStates(t, story()[:2], api.MaxPeriod, active(10), active(10))
}

func TestStatesOfRuns(t *testing.T) {
	series := []api.Visit{missing("o", cola, 1), missing("o", cola, 2), sale("o", cola, 3, 4), priced("o", cola, 5, 4), sale("o", cola, 6, 4), missing("o", cola, 8), priced("o", cola, 9, 1), gone("o", cola, 10)}
	checkStates(t, series, 0, api.Status{}, missed(1), missed(1), active(3), active(3), active(3), active(3), active(3), missed(8), active(9), ended(10), ended(10))
}

// TestStatesBehindTheEnd has visits behind the end, which have no effect.
func TestStatesBehindTheEnd(t *testing.T) {
	visits := []api.Visit{priced("o", cola, 3, 1), missing("o", cola, 3), gone("o", cola, 3), replaced("o", cola, 3, 1, tea)}
	for _, v := range visits {
		for _, w := range visits {
			v.Period, w.Period = 3, 4
			checkStates(t, []api.Visit{gone("o", cola, 2), v, w}, 1, api.Status{}, ended(2), ended(2), ended(2))
			checkStates(t, []api.Visit{replaced("o", cola, 2, 1, juice), v, w}, 1, api.Status{}, followed(2, juice), followed(2, juice), followed(2, juice))
		}
	}
}

// TestStatesOfAnyList has lists that are no series.
func TestStatesOfAnyList(t *testing.T) {
	// The order of the list counts, not that of the periods.
	mixed := []api.Visit{priced("o", cola, 7, 1), missing("n", tea, 3), missing("", "", 5), replaced("o", cola, 2, 1, "")}
	checkStates(t, mixed, 1, api.Status{}, followed(2, ""), followed(2, ""))
	checkStates(t, mixed[:3], 2, api.Status{}, missed(3), missed(3), missed(3), missed(3), missed(3), missed(3))
	checkStates(t, mixed[:1], 6, api.Status{}, active(7))
	// Visits of later periods are no part of it: they neither end it nor interrupt a run.
	checkStates(t, []api.Visit{priced("o", cola, 1, 1), gone("o", cola, 9), priced("o", cola, 2, 1)}, 1, active(1), active(1))
	checkStates(t, []api.Visit{priced("o", cola, 1, 1), missing("o", cola, 9), sale("o", cola, 2, 1)}, 2, active(1))
	// Equal and negative periods are possible.
	checkStates(t, []api.Visit{missing("o", cola, -5), priced("o", cola, -5, 1), priced("o", cola, -6, 1)}, -6, active(-6), active(-5))
	checkStates(t, []api.Visit{priced("o", cola, math.MaxInt, 1), priced("o", cola, math.MinInt, 1)}, math.MaxInt, active(math.MaxInt))
	// The replacement is that of the visit that decides, whatever it is, and of no other one.
	odd := api.Visit{Period: 1, Status: api.StatusReplaced, Replacement: "\xff"}
	checkStates(t, []api.Visit{odd}, 1, followed(1, "\xff"))
	for status := api.StatusPriced; status <= api.StatusGone; status++ {
		odd.Status = status
		if got := checkState(t, []api.Visit{odd}, 1); got.Kind == api.StateUnknown || got.Since != 1 || got.Replacement != "" {
			t.Errorf("%+v", got)
		}
	}
}

func TestStatesOfOtherStatuses(t *testing.T) {
	for _, status := range []int{math.MinInt, -1, 0, 6, 7, math.MaxInt} {
		other := api.Visit{Outlet: "o", Product: cola, Period: 5, Status: status, Price: 1, Replacement: tea}
		checkStates(t, []api.Visit{other}, 4, api.Status{}, api.Status{}, api.Status{})
		// It decides like none at all, but it is in its place: the visit before it does not decide.
		checkStates(t, []api.Visit{priced("o", cola, 4, 1), other, priced("o", cola, 6, 1)}, 4, active(4), api.Status{}, active(6))
		checkStates(t, []api.Visit{missing("o", cola, 4), other, missing("o", cola, 6)}, 4, missed(4), api.Status{}, missed(6))
		checkStates(t, []api.Visit{gone("o", cola, 4), other}, 4, ended(4), ended(4))
	}
}

func TestRandomStates(t *testing.T) {
	random := rand.New(rand.NewPCG(2, 35))
	count := map[int]int{}
	for range 20000 {
		var series []api.Visit
		for range random.IntN(8) {
			v := api.Visit{Period: random.IntN(6), Status: 1 + random.IntN(3), Replacement: []string{"", tea}[random.IntN(2)]}
			if random.IntN(5) == 0 {
				v.Status = random.IntN(7)
			}
			series = append(series, v)
		}
		for period := -1; period < 7; period++ {
			count[checkState(t, series, period).Kind]++
		}
	}
	if len(count) != 5 {
		t.Error("some state is missing", count)
	}
}
