package calendar

import (
	"math"
	"testing"
	"time"

	"priceoffice/api"
)

const days = 182621

// noNumbers are numbers that are neither days nor periods.
var noNumbers = []int{-1, -2, -12, -365, -days, days, days + 1, 1 << 20, -1 << 20, math.MinInt32, math.MaxInt32, math.MinInt, math.MinInt + 1, math.MaxInt - 1, math.MaxInt}

func date(year, month, day int) api.Date {
	return api.Date{Year: year, Month: month, Day: day}
}

// eachDay calls visit with every day of the calendar as package time, which the tests compare with, counts it.
func eachDay(visit func(day int, now time.Time)) {
	now := time.Date(1900, 1, 1, 0, 0, 0, 0, time.UTC)
	for day := range days {
		visit(day, now)
		now = now.AddDate(0, 0, 1)
	}
}

func dateAt(now time.Time) api.Date {
	return date(now.Year(), int(now.Month()), now.Day())
}

func TestEveryDay(t *testing.T) {
	eachDay(func(day int, now time.Time) {
		want := dateAt(now)
		if got, ok := DateOf(day); !ok || got != want {
			t.Error(day, "DateOf", got, ok, want)
		}
		if n := Number(want); n != day || !ValidDate(want) {
			t.Error(want, "Number", n, day)
		}
		if n := Weekday(day); n != (int(now.Weekday())+6)%7 {
			t.Error(want, "Weekday", n)
		}
		if n := PeriodOf(day); n != 12*(want.Year-1900)+want.Month-1 {
			t.Error(want, "PeriodOf", n)
		}
	})
}

func TestDaysOfTheDocument(t *testing.T) {
	for _, x := range []struct {
		d                    api.Date
		day, weekday, period int
	}{
		{date(1900, 1, 1), 0, 0, 0},
		{date(1900, 1, 31), 30, 2, 0},
		{date(1900, 2, 28), 58, 2, 1},
		{date(1900, 3, 1), 59, 3, 2},
		{date(2000, 2, 29), 36583, 1, 1201},
		{date(2399, 12, 31), 182620, 4, 5999},
	} {
		if got, ok := DateOf(x.day); !ok || got != x.d || Number(x.d) != x.day {
			t.Error(x, got, ok, Number(x.d))
		}
		if w, p := Weekday(x.day), PeriodOf(x.day); w != x.weekday || p != x.period {
			t.Error(x, w, p)
		}
	}
}

// TestDatesNearTheCalendar has all dates, valid or not, of the years around its ends and of years with and without a leap day.
func TestDatesNearTheCalendar(t *testing.T) {
	for _, year := range []int{-1900, -4, 0, 1, 1600, 1896, 1899, 1900, 1901, 1904, 1999, 2000, 2023, 2024, 2100, 2200, 2300, 2396, 2399, 2400, 2401, 4000} {
		for month := -2; month <= 15; month++ {
			for day := -2; day <= 34; day++ {
				checkDate(t, date(year, month, day))
			}
		}
	}
}

// checkDate compares with package time, which moves a day that its month does not have to another month.
func checkDate(t *testing.T, d api.Date) {
	t.Helper()
	now := time.Date(d.Year, time.Month(d.Month), d.Day, 0, 0, 0, 0, time.UTC)
	valid := dateAt(now) == d && d.Year >= 1900 && d.Year <= 2399
	number := -1
	if valid {
		number = int(now.Sub(time.Date(d.Year, 1, 1, 0, 0, 0, 0, time.UTC)).Hours())/24 + daysBefore(d.Year)
	}
	if ValidDate(d) != valid || Number(d) != number {
		t.Error(d, ValidDate(d), Number(d), number)
	}
}

// daysBefore counts the days of the years from 1900 on that end before a year.
func daysBefore(year int) int {
	n := 0
	for y := 1900; y < year; y++ {
		n += time.Date(y, 12, 31, 0, 0, 0, 0, time.UTC).YearDay()
	}
	return n
}

func TestInvalidDates(t *testing.T) {
	for _, d := range []api.Date{
		{}, date(1899, 12, 31), date(2400, 1, 1), date(1900, 2, 29), date(2100, 2, 29), date(2200, 2, 29), date(2300, 2, 29),
		date(2000, 2, 30), date(2001, 2, 29), date(2001, 0, 1), date(2001, 13, 1), date(2001, 1, 0), date(2001, 1, 32),
		date(2001, 4, 31), date(2001, 6, 31), date(2001, 9, 31), date(2001, 11, 31), date(-2000, 1, 1), date(2000, -1, 1), date(2000, 1, -1),
	} {
		if ValidDate(d) || Number(d) != -1 {
			t.Error(d, ValidDate(d), Number(d))
		}
	}
	for _, n := range noNumbers {
		for _, d := range []api.Date{date(n, 1, 1), date(2000, n, 1), date(2000, 1, n), date(n, n, n)} {
			if ValidDate(d) || Number(d) != -1 {
				t.Error(d, ValidDate(d), Number(d))
			}
		}
	}
}

func TestNumbersThatAreNoDays(t *testing.T) {
	for _, n := range noNumbers {
		if d, ok := DateOf(n); ok || d != (api.Date{}) {
			t.Error(n, "DateOf", d, ok)
		}
		if w, p := Weekday(n), PeriodOf(n); w != -1 || p != -1 {
			t.Error(n, w, p)
		}
	}
}
