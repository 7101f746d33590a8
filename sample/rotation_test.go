package sample

import (
	"math"
	"slices"
	"testing"

	"priceoffice/api"
)

func rotation(panels, stay, step, first int) api.Rotation {
	return api.Rotation{Panels: panels, Stay: stay, Step: step, First: first}
}

// stays marks the periods in which each panel is in the sample: panel p comes p steps after the first period, and
// again after each cycle; there have been cycles before the first period, too.
func stays(r api.Rotation) [][]bool {
	marks := make([][]bool, r.Panels)
	for p := range marks {
		marks[p] = make([]bool, api.MaxPeriod+1)
		for entry := r.First + p*r.Step - 2*r.Panels*r.Step; entry <= api.MaxPeriod; entry += r.Panels * r.Step {
			for period := max(entry, r.First); period < entry+r.Stay && period <= api.MaxPeriod; period++ {
				marks[p][period] = true
			}
		}
	}
	return marks
}

// checkPanels compares the panels of these periods with what is marked.
func checkPanels(t *testing.T, r api.Rotation, periods []int) {
	t.Helper()
	marks := stays(r)
	for _, period := range periods {
		var want []int
		for p := range marks {
			if period >= 0 && period <= api.MaxPeriod && marks[p][period] {
				want = append(want, p)
			}
		}
		got := Panels(r, period)
		if !slices.Equal(got, want) {
			t.Errorf("%+v %d: %v, want %v", r, period, got, want)
		}
		if inSample := period >= r.First && period <= api.MaxPeriod; inSample && r.Stay%r.Step == 0 && len(got) != r.Stay/r.Step {
			t.Errorf("%+v %d: %v", r, period, got)
		}
	}
}

// periodsAround returns periods at the ends of the calendar, and those of some cycles from before the first one on.
func periodsAround(r api.Rotation) []int {
	list := []int{math.MinInt, -api.MaxPeriod, -1, 0, 1, api.MaxPeriod - 1, api.MaxPeriod, api.MaxPeriod + 1, math.MaxInt}
	for period := r.First - 2; period < r.First+2*r.Panels*r.Step+2; period++ {
		list = append(list, period)
	}
	return list
}

func TestPanels(t *testing.T) {
	for _, x := range []struct {
		r      api.Rotation
		period int
		want   []int
	}{
		{rotation(4, 2, 1, 0), 5, []int{0, 1}}, {rotation(4, 2, 1, 0), 0, []int{0, 3}}, {rotation(4, 2, 1, 10), 9, nil}, {rotation(4, 2, 1, 10), 10, []int{0, 3}},
		{rotation(3, 4, 2, 1), 3, []int{0, 1}}, {rotation(2, 1, 3, 0), 2, nil}, {rotation(2, 1, 3, 0), 3, []int{1}}, {rotation(2, 6, 3, 0), 4, []int{0, 1}},
		{rotation(1, 1, 1, 5999), 5999, []int{0}}, {rotation(1, 1, 1, 5999), 5998, nil}, {rotation(1, 1, 1, 0), 6000, nil}, {rotation(1, 1, 1, 0), -1, nil},
	} {
		if got := Panels(x.r, x.period); !slices.Equal(got, x.want) {
			t.Errorf("%+v %d: %v", x.r, x.period, got)
		}
	}
	for panels := 1; panels <= 6; panels++ {
		for step := 1; step <= 4; step++ {
			for stay := 1; stay <= panels*step; stay++ {
				for _, first := range []int{0, 1, 7, 5980, api.MaxPeriod} {
					r := rotation(panels, stay, step, first)
					checkPanels(t, r, periodsAround(r))
				}
			}
		}
	}
}

func TestPanelsAtTheLimits(t *testing.T) {
	for _, r := range []api.Rotation{rotation(24, 288, 12, 0), rotation(24, 1, 12, 3), rotation(24, 287, 12, 5990), rotation(24, 24, 1, 100), rotation(1, 12, 12, 0), rotation(1, 5, 12, 0), rotation(24, 36, 12, 5000)} {
		checkPanels(t, r, periodsAround(r))
	}
}

func TestValidateRotation(t *testing.T) {
	integers := []int{math.MinInt, -25, -1, 0, 1, 2, 3, 4, 5, 6, 11, 12, 13, 14, 23, 24, 25, 26, 287, 288, 289, 5998, 5999, 6000, 1 << 31, 1 << 62, math.MaxInt}
	for _, panels := range integers {
		for _, step := range integers {
			for _, stay := range integers {
				for _, first := range []int{math.MinInt, -1, 0, 1, 5998, 5999, 6000, math.MaxInt} {
					r := rotation(panels, stay, step, first)
					fewPanels := panels >= 1 && panels <= 24 && step >= 1 && step <= 12
					valid := fewPanels && stay >= 1 && stay <= panels*step && first >= 0 && first <= 5999
					e := ValidateRotation(r)
					if valid && e != api.OK || !valid && e != api.ErrSampleRotation {
						t.Fatalf("%+v: %d", r, e)
					}
					if period := max(first, 0); !valid && (len(Panels(r, period)) > 0 || len(Shared(r, period, period)) > 0) {
						t.Fatalf("%+v has panels", r)
					}
				}
			}
		}
	}
}

func TestShared(t *testing.T) {
	example := rotation(4, 2, 1, 0)
	for _, x := range []struct {
		first, second int
		want          []int
	}{
		{5, 5, []int{0, 1}}, {5, 6, []int{1}}, {6, 5, []int{1}}, {5, 7, nil}, {5, 9, []int{0, 1}}, {8, 5, []int{0}}, {5, -1, nil}, {6000, 5, nil}, {math.MinInt, math.MaxInt, nil},
	} {
		if got := Shared(example, x.first, x.second); !slices.Equal(got, x.want) {
			t.Error(x, got)
		}
	}
	for _, r := range []api.Rotation{example, rotation(5, 7, 3, 20), rotation(24, 100, 12, 5600), rotation(3, 3, 1, 4)} {
		periods := periodsAround(r)
		for _, first := range periods[:min(len(periods), 60)] {
			for _, second := range periods {
				var want []int
				for p := range r.Panels {
					if slices.Contains(Panels(r, first), p) && slices.Contains(Panels(r, second), p) {
						want = append(want, p)
					}
				}
				if got := Shared(r, first, second); !slices.Equal(got, want) {
					t.Errorf("%+v %d %d: %v, want %v", r, first, second, got, want)
				}
			}
		}
	}
}
