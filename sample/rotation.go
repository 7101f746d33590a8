package sample

import (
	"slices"

	"priceoffice/api"
)

// ValidateRotation returns the error of a rotation.
func ValidateRotation(r api.Rotation) api.Errno {
	switch {
	case r.Panels < 1 || r.Panels > api.MaxPanels,
		r.Step < 1 || r.Step > api.MaxStep,
		r.Stay < 1 || r.Stay > r.Panels*r.Step,
		r.First < 0 || r.First > api.MaxPeriod:
		return api.ErrSampleRotation
	}
	return api.OK
}

// Panels returns the panels that are in the sample in a period.
func Panels(r api.Rotation, period int) []int {
	if ValidateRotation(r) != api.OK || period < r.First || period > api.MaxPeriod {
		return nil
	}
	cycle := r.Panels * r.Step
	var panels []int
	for p := range r.Panels {
		// A cycle more keeps what is divided positive, as the remainder is one from 0 on.
		if (period-r.First-p*r.Step+cycle)%cycle < r.Stay {
			panels = append(panels, p)
		}
	}
	return panels
}

// Shared returns the panels that are in the sample in both periods.
func Shared(r api.Rotation, first, second int) []int {
	others := Panels(r, second)
	return slices.DeleteFunc(Panels(r, first), func(p int) bool { return !slices.Contains(others, p) })
}
