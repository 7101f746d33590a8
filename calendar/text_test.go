package calendar

import (
	"strings"
	"testing"
	"time"

	"priceoffice/api"
)

func TestTextOfEveryDay(t *testing.T) {
	eachDay(func(_ int, now time.Time) {
		d, want := dateAt(now), now.Format("2006-01-02")
		if s := FormatDate(d); s != want {
			t.Error(d, s, want)
		}
		if got, e := ParseDate(want); e != api.OK || got != d {
			t.Error(want, got, e)
		}
	})
}

func TestTextOfEveryPeriod(t *testing.T) {
	now := time.Date(1900, 1, 1, 0, 0, 0, 0, time.UTC)
	for period := range api.MaxPeriod + 1 {
		want := now.Format("2006-01")
		if s := FormatPeriod(period); s != want {
			t.Error(period, s, want)
		}
		if got, e := ParsePeriod(want); e != api.OK || got != period {
			t.Error(want, got, e)
		}
		now = now.AddDate(0, 1, 0)
	}
}

func TestTextOfNothing(t *testing.T) {
	for _, d := range []api.Date{{}, date(1899, 12, 31), date(2400, 1, 1), date(1900, 2, 29), date(2001, 4, 31), date(2001, 13, 1), date(2001, 1, 0), date(0, 1, 1)} {
		if s := FormatDate(d); s != "" {
			t.Error(d, s)
		}
	}
	for _, n := range append([]int{6000, 6011}, noNumbers...) {
		if s := FormatPeriod(n); s != "" {
			t.Error(n, s)
		}
		for _, d := range []api.Date{date(n, 1, 1), date(2000, n, 1), date(2000, 1, n)} {
			if s := FormatDate(d); s != "" {
				t.Error(d, s)
			}
		}
	}
}

// checkNoDate checks that s is refused, which must be no text of a date.
func checkNoDate(t *testing.T, s string) {
	t.Helper()
	if got, e := ParseDate(s); e != api.ErrCalendarForm || got != (api.Date{}) {
		t.Errorf("%q %v %v", s, got, e)
	}
}

// checkNoPeriod checks that s is refused, which must be no text of a period.
func checkNoPeriod(t *testing.T, s string) {
	t.Helper()
	if got, e := ParsePeriod(s); e != api.ErrCalendarForm || got != 0 {
		t.Errorf("%q %v %v", s, got, e)
	}
}

func TestMalformedDates(t *testing.T) {
	for _, s := range []string{
		"", "-", "--", "x", "0", "2000", "2000-02", "2000-2-29", "2000-02-9", "2000-2-009", "200-002-29", "20000229", "2000-02-29-01",
		"2001-02-29", "2000-02-30", "1900-02-29", "2000-04-31", "2000-00-10", "2000-13-01", "1999-13-01", "2000-01-00", "2000-01-32",
		"1899-12-31", "2400-01-01", "0000-01-01", "9999-12-31", "12000-01-01", "02000-01-01",
		"2000-02-29 ", " 2000-02-29", "2000-02-29\n", "2000-02-29\x00", "2000-02- 1", "2000- 2-01", " 200-02-01",
		"+200-02-01", "2000-+2-01", "2000-02-+1", "2000-02--1", "2000--2-01", "-200-02-01", "2_00-02-01", "0x7d-01-01", "2e03-01-01",
		"2000/02/29", "2000.02.29", "2000-02/29", "2000/02-29", "2000002-29", "2000-02029", "2000\u201302-2", "\u0662000-02-2", strings.Repeat("2000-02-29", 1000),
	} {
		checkNoDate(t, s)
	}
}

func TestMalformedPeriods(t *testing.T) {
	for _, s := range []string{
		"", "-", "x", "0", "2000", "200002", "2000-2", "2000-002", "2000-02-01", "20-0002", "2000-2-",
		"2000-00", "2000-13", "1999-13", "2000-99", "1899-12", "1899-13", "2400-01", "2400-00", "0000-01", "9999-12", "12000-01", "02000-1",
		"2000-02 ", " 2000-02", "2000-02\n", "2000-02\x00", "2000- 2", " 200-02", "+200-02", "2000-+2", "2000--2", "-200-02", "2_00-02", "0x7d-01",
		"2000/02", "2000.02", "2000002", "2000\u2013", "\u0662\u066000-", strings.Repeat("2000-02", 1000),
	} {
		checkNoPeriod(t, s)
	}
}

// TestEveryChangeOfAText puts every byte in every place of a text, and takes bytes away from it and adds them.
func TestEveryChangeOfAText(t *testing.T) {
	const text = "2004-02-29"
	dates, periods := map[string]bool{}, map[string]bool{}
	eachDay(func(_ int, now time.Time) {
		dates[now.Format("2006-01-02")] = true
		periods[now.Format("2006-01")] = true
	})
	for place := range len(text) {
		for b := range 256 {
			for _, s := range []string{text[:place] + string([]byte{byte(b)}) + text[place+1:], text[:place] + string([]byte{byte(b)}) + text[place:], text[:place] + text[place+1:]} {
				if got, e := ParseDate(s); dates[s] != (e == api.OK) || dates[s] && FormatDate(got) != s {
					t.Errorf("%q %v %v", s, got, e)
				}
				short := s[:len(s)-3]
				if got, e := ParsePeriod(short); periods[short] != (e == api.OK) || periods[short] && FormatPeriod(got) != short {
					t.Errorf("%q %v %v", short, got, e)
				}
			}
		}
	}
}
