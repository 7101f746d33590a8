package calendar

import (
	"strconv"

	"priceoffice/api"
)

// ParseDate reads a date of the form 2026-11-17.
func ParseDate(s string) (api.Date, api.Errno) {
	if len(s) != len("2026-11-17") {
		return api.Date{}, api.ErrCalendarForm
	}
	d := api.Date{Year: looseNumber(s[:4]), Month: looseNumber(s[5:7]), Day: looseNumber(s[8:])}
	if FormatDate(d) != s {
		return api.Date{}, api.ErrCalendarForm
	}
	return d, api.OK
}

// FormatDate returns a date in the form 2026-11-17.
func FormatDate(d api.Date) string {
	if !ValidDate(d) {
		return ""
	}
	return FormatPeriod(periodNumber(d.Year, d.Month)) + "-" + twoDigits(d.Day)
}

// ParsePeriod reads a period of the form 2026-11.
func ParsePeriod(s string) (int, api.Errno) {
	if len(s) != len("2026-11") {
		return 0, api.ErrCalendarForm
	}
	period := periodNumber(looseNumber(s[:4]), looseNumber(s[5:]))
	if FormatPeriod(period) != s {
		return 0, api.ErrCalendarForm
	}
	return period, api.OK
}

// FormatPeriod returns a period in the form 2026-11.
func FormatPeriod(period int) string {
	if !validPeriod(period) {
		return ""
	}
	return strconv.Itoa(yearOf(period)) + "-" + twoDigits(Month(period))
}

// looseNumber reads a few digits. It need not refuse anything: what is read is compared with the text that has its form.
func looseNumber(text string) int {
	n, _ := strconv.Atoi(text)
	return n
}

// twoDigits returns a number from 0 to 99 with two digits.
func twoDigits(n int) string {
	if n < 10 {
		return "0" + strconv.Itoa(n)
	}
	return strconv.Itoa(n)
}
