package calendar

import (
	"testing"
	"time"

	"priceoffice/api"
)

func TestEveryPeriod(t *testing.T) {
	var first, last [api.MaxPeriod + 1]int
	eachDay(func(day int, now time.Time) {
		period := 12*(now.Year()-1900) + int(now.Month()) - 1
		if now.Day() == 1 {
			first[period] = day
		}
		last[period] = day
	})
	for period := range api.MaxPeriod + 1 {
		if a, b := FirstDay(period), LastDay(period); a != first[period] || b != last[period] {
			t.Error(period, a, b, first[period], last[period])
		}
		if period > 0 && LastDay(period-1)+1 != FirstDay(period) {
			t.Error(period, "does not follow the one before")
		}
		year, month := 1900+period/12, 1+period%12
		if n := Month(period); n != month {
			t.Error(period, "Month", n)
		}
		december := -1
		if year > 1900 {
			december = 12*(year-1-1900) + 11
		}
		if n := December(period); n != december {
			t.Error(period, "December", n, december)
		}
	}
}

func TestPeriodsOfTheDocument(t *testing.T) {
	for _, x := range []struct{ period, month, first, last, december int }{
		{0, 1, 0, 30, -1},
		{5, 6, 151, 180, -1},
		{11, 12, 334, 364, -1},
		{12, 1, 365, 395, 11},
		{1199, 12, 36493, 36523, 1187},
		{1201, 2, 36555, 36583, 1199},
		{5999, 12, 182590, 182620, 5987},
	} {
		if m, a, b, d := Month(x.period), FirstDay(x.period), LastDay(x.period), December(x.period); m != x.month || a != x.first || b != x.last || d != x.december {
			t.Error(x, m, a, b, d)
		}
	}
}

func TestNumbersThatAreNoPeriods(t *testing.T) {
	for _, n := range append([]int{-13, -24, 6000, 6001, 6011, 6012}, noNumbers...) {
		if m, a, b, d := Month(n), FirstDay(n), LastDay(n), December(n); m != 0 || a != -1 || b != -1 || d != -1 {
			t.Error(n, m, a, b, d)
		}
	}
}
