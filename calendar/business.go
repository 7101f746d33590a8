package calendar

import (
	"slices"

	"priceoffice/api"
)

// Business reports whether a day is a business day.
func Business(day int, holidays []int) bool {
	const saturday = 5
	return validDay(day) && Weekday(day) < saturday && !slices.Contains(holidays, day)
}

// Shift returns the k-th business day after or before a day.
func Shift(day, k int, holidays []int) (int, api.Errno) {
	switch {
	case !validDay(day):
		return 0, api.ErrCalendarDay
	case k < -api.MaxShift || k > api.MaxShift:
		return 0, api.ErrCalendarShift
	case len(holidays) > api.MaxHolidays:
		return 0, api.ErrCalendarList
	case k < 0:
		return walk(day, -1, -k, holidays)
	case k == 0:
		// The first business day that is not before a day is the first one after the day before it.
		return walk(day-1, 1, 1, holidays)
	}
	return walk(day, 1, k, holidays)
}

// walk returns the business day with the number count, from 1, among those that follow day in steps of 1 or -1.
func walk(day, step, count int, holidays []int) (int, api.Errno) {
	for day += step; validDay(day); day += step {
		if Business(day, holidays) {
			count--
		}
		if count == 0 {
			return day, api.OK
		}
	}
	return 0, api.ErrCalendarRange
}
