package calendar

import (
	"sort"

	"priceoffice/api"
)

const monthsAYear = 12

// PeriodOf returns the period of a day, or -1.
func PeriodOf(day int) int {
	if !validDay(day) {
		return -1
	}
	return sort.Search(api.MaxPeriod, func(period int) bool { return LastDay(period) >= day })
}

// Month returns the month of a period from 1 to 12, or 0.
func Month(period int) int {
	if !validPeriod(period) {
		return 0
	}
	return period%monthsAYear + 1
}

// FirstDay returns the first day of a period, or -1.
func FirstDay(period int) int {
	if !validPeriod(period) {
		return -1
	}
	year := yearOf(period)
	day := yearStart(year)
	for month := 1; month < Month(period); month++ {
		day += monthLength(year, month)
	}
	return day
}

// LastDay returns the last day of a period, or -1.
func LastDay(period int) int {
	if !validPeriod(period) {
		return -1
	}
	return FirstDay(period) + monthLength(yearOf(period), Month(period)) - 1
}

// December returns the December of the year before that of a period, or -1.
func December(period int) int {
	if !validPeriod(period) {
		return -1
	}
	// The year before 1900 has no periods, and this is -1 for it.
	return period - Month(period)
}

func validPeriod(period int) bool {
	return period >= 0 && period <= api.MaxPeriod
}

func yearOf(period int) int {
	return firstYear + period/monthsAYear
}

func periodNumber(year, month int) int {
	return monthsAYear*(year-firstYear) + month - 1
}
