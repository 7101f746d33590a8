package calendar

import (
	"math"
	"slices"
	"testing"

	"priceoffice/api"
)

// run returns the numbers from first on.
func run(first, size int) []int {
	list := make([]int, size)
	for i := range list {
		list[i] = first + i
	}
	return list
}

// businessDays lists those of the calendar, in order, by the sequence of the days of the week.
func businessDays(holidays []int) []int {
	closed := map[int]bool{}
	for _, day := range holidays {
		closed[day] = true
	}
	var list []int
	for monday := 0; monday < days; monday += 7 {
		for day := monday; day < monday+5 && day < days; day++ {
			if !closed[day] {
				list = append(list, day)
			}
		}
	}
	return list
}

// shifted finds the result of Shift in the list of all business days.
func shifted(list []int, day, k int) (int, api.Errno) {
	place, found := slices.BinarySearch(list, day)
	switch {
	case k > 0 && found:
		place += k
	case k > 0:
		place += k - 1
	case k < 0:
		place += k
	}
	if place < 0 || place >= len(list) {
		return 0, api.ErrCalendarRange
	}
	return list[place], api.OK
}

// scattered returns holidays in no order, with repetitions, near each other and far, and outside the calendar.
func scattered() []int {
	list := []int{182620, -1, 99999999, 0, math.MinInt, math.MaxInt, 0, 182621, 182617, 182619}
	for i := range 190 {
		list = append(list, (i*7919+11)%3000, (days-1)-(i*i*31)%2500)
	}
	return list
}

func TestBusiness(t *testing.T) {
	for _, holidays := range [][]int{nil, {}, {4}, {7, 0, 7, -5}, {5, 6}, scattered(), run(1000, 5000), make([]int, 100000)} {
		list := businessDays(holidays)
		for _, first := range []int{0, 990, 5990, 36500, 180000, days - 20} {
			for day := first; day < min(first+100, days); day++ {
				if got := Business(day, holidays); got != slices.Contains(list, day) {
					t.Error(day, len(holidays), got)
				}
			}
		}
	}
	for _, n := range noNumbers {
		if Business(n, nil) || Business(n, []int{0}) || Business(n, []int{n}) {
			t.Error(n)
		}
	}
}

func TestBusinessOfEveryDay(t *testing.T) {
	list := businessDays([]int{59})
	for day := range days {
		want := len(list) > 0 && list[0] == day
		if want {
			list = list[1:]
		}
		if Business(day, []int{59}) != want {
			t.Error(day, want)
		}
	}
}

func TestShift(t *testing.T) {
	for i, x := range []struct {
		day, k   int
		holidays []int
		want     int
	}{
		{4, 1, nil, 7}, {5, 0, nil, 7}, {7, -1, []int{4}, 3},
		{4, 0, nil, 4}, {5, 1, nil, 7}, {6, 1, nil, 7}, {6, 2, nil, 8}, {5, -1, nil, 4}, {6, -1, nil, 4}, {6, -5, nil, 0},
		{7, 0, []int{7}, 8}, {7, 1, []int{7}, 8}, {7, -1, []int{7}, 4}, {8, -1, []int{7}, 4},
		{7, 0, []int{8, 7, 8, 9, 7}, 10}, {7, 1, []int{12, 13, -1, days, math.MaxInt}, 8},
		{0, 0, nil, 0}, {0, 0, []int{0}, 1}, {1, -1, nil, 0}, {0, 0, run(0, 400), 400},
		{182620, 0, nil, 182620}, {182620, -1, nil, 182619}, {182619, 1, nil, 182620},
		{0, 1000, nil, 1400}, {1400, -1000, nil, 0}, {182620, -1000, nil, 181220}, {181220, 1000, nil, 182620},
		{0, 1, run(1, 400), 401}, {401, -1, run(1, 400), 0}, {3, 1, make([]int, 400), 4},
	} {
		if got, e := Shift(x.day, x.k, x.holidays); got != x.want || e != api.OK {
			t.Error(i, got, e)
		}
	}
}

func TestShiftAgainstTheListOfBusinessDays(t *testing.T) {
	for _, holidays := range [][]int{nil, {4}, scattered(), run(50, 400), run(days-400, 400)} {
		list := businessDays(holidays)
		for _, first := range []int{0, 440, 1390, 36570, days - 1420, days - 450, days - 20} {
			for day := first; day < min(first+20, days); day++ {
				for _, k := range []int{0, 1, -1, 2, -2, 5, -5, 6, -6, 23, -23, 999, -999, 1000, -1000} {
					want, failure := shifted(list, day, k)
					if got, e := Shift(day, k, holidays); got != want || e != failure {
						t.Error(day, k, len(holidays), got, e, want, failure)
					}
				}
			}
		}
	}
}

func TestShiftBack(t *testing.T) {
	holidays := scattered()
	for day := 1; day < days; day += 397 {
		for _, k := range []int{0, 1, -1, 4, -10, 300, -1000, 1000} {
			there, e := Shift(day, k, holidays)
			if e != api.OK || !Business(day, holidays) {
				continue
			}
			if back, e := Shift(there, -k, holidays); back != day || e != api.OK {
				t.Error(day, k, there, back, e)
			}
		}
	}
}

func TestShiftErrors(t *testing.T) {
	tooMany := make([]int, api.MaxHolidays+1)
	for i, x := range []struct {
		day, k   int
		holidays []int
		e        api.Errno
	}{
		{-1, 0, nil, api.ErrCalendarDay}, {days, 0, nil, api.ErrCalendarDay}, {days, -1, nil, api.ErrCalendarDay}, {-1, 1, nil, api.ErrCalendarDay},
		{-1, 1001, tooMany, api.ErrCalendarDay}, {math.MinInt, math.MinInt, tooMany, api.ErrCalendarDay}, {math.MaxInt, 0, nil, api.ErrCalendarDay},
		{0, 1001, nil, api.ErrCalendarShift}, {days - 1, -1001, nil, api.ErrCalendarShift}, {5000, 1001, tooMany, api.ErrCalendarShift},
		{0, math.MinInt, nil, api.ErrCalendarShift}, {0, math.MaxInt, tooMany, api.ErrCalendarShift}, {days - 1, math.MinInt + 1, nil, api.ErrCalendarShift},
		{5000, 0, tooMany, api.ErrCalendarList}, {0, -1, tooMany, api.ErrCalendarList}, {days - 1, 1000, run(days, 401), api.ErrCalendarList},
		{0, -1, nil, api.ErrCalendarRange}, {6, -6, nil, api.ErrCalendarRange}, {1397, -1000, nil, api.ErrCalendarRange}, {1, -1, []int{0}, api.ErrCalendarRange},
		{days - 1, 1, nil, api.ErrCalendarRange}, {days - 1, 0, []int{days - 1}, api.ErrCalendarRange}, {days - 2, 1, []int{days - 1}, api.ErrCalendarRange},
		{days - 1401, 1000, []int{days - 1}, api.ErrCalendarRange}, {days - 400, 0, run(days-400, 400), api.ErrCalendarRange}, {399, -1, run(0, 400), api.ErrCalendarRange},
	} {
		if got, e := Shift(x.day, x.k, x.holidays); got != 0 || e != x.e {
			t.Error(i, got, e)
		}
	}
}

func TestHolidaysAreNotChanged(t *testing.T) {
	memory := append(scattered(), 7, 14, 21)
	before := slices.Clone(memory)
	holidays := memory[:len(memory)-3]
	for _, k := range []int{0, 1, -1, 10, 1000, -1000} {
		Shift(2000, k, holidays)
		Shift(2001, k, holidays)
	}
	Business(7, holidays)
	Business(14, holidays)
	if !slices.Equal(memory, before) {
		t.Error("the list of holidays was changed")
	}
	// What lies behind the list is no holiday.
	if !Business(7, []int{3, 7}[:1]) {
		t.Error("spare capacity was read")
	}
	if got, e := Shift(4, 1, []int{3, 7}[:1]); got != 7 || e != api.OK {
		t.Error("spare capacity was read", got, e)
	}
}
