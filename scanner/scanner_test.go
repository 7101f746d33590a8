package scanner

import (
	"math"
	"slices"
	"strings"
	"testing"

	"priceoffice/api"
)

// checkError compares the errors of all functions that take a list with its description, and their other results with
// nothing if there is an error.
func checkError(t *testing.T, rows []api.Row, want api.Errno) {
	t.Helper()
	if described := verdict(rows); described != want {
		t.Errorf("the description says %v, not %v", described, want)
	}
	if e := Validate(rows); e != want {
		t.Errorf("%d rows: %v, want %v", len(rows), e, want)
	}
	combined, e := Combine(rows)
	if e != want || e != api.OK && len(combined) != 0 {
		t.Errorf("Combine of %d rows: %v, %v, want %v", len(rows), some(combined), e, want)
	}
	observed, e := Observations(rows)
	if e != want || e != api.OK && len(observed) != 0 {
		t.Errorf("Observations of %d rows: %v, %v, want %v", len(rows), some(observed), e, want)
	}
	covered, all := Coverage(rows, []api.Product{{ID: cola}}, 5)
	sum, top := Turnover(rows, 5), Top(rows, 5, fraction(1, 1))
	if want != api.OK && (sum != 0 || covered != 0 || all != 0 || len(top) != 0) {
		t.Errorf("%d rows that are not valid have results: %d, %d, %d, %v", len(rows), sum, covered, all, some(top))
	}
}

// checkRow checks lists with a row at all places.
func checkRow(t *testing.T, r api.Row, valid bool) {
	t.Helper()
	if wantRow(r) != valid {
		t.Errorf("the description of %+v is wrong", r)
	}
	want := api.OK
	if !valid {
		want = api.ErrScannerRow
	}
	good := row("o", cola, 5, 2, 300)
	for _, rows := range [][]api.Row{{r}, {r, good}, {good, r}, {good, r, good}, {good, good, good, r}, {r, r}} {
		checkError(t, rows, want)
	}
}

func TestCountOfRows(t *testing.T) {
	good, bad := row("o", cola, 5, 2, 300), row("", cola, 5, 2, 300)
	checkError(t, nil, api.OK)
	checkError(t, []api.Row{}, api.OK)
	for _, n := range []int{1, 2, 400, 401, 23999, 24000} {
		rows := slices.Repeat([]api.Row{good}, n)
		checkError(t, rows, api.OK)
		for _, i := range []int{0, n / 2, n - 1} {
			rows[i] = bad
			checkError(t, rows, api.ErrScannerRow)
			rows[i] = good
		}
		checkError(t, slices.Repeat([]api.Row{bad}, n), api.ErrScannerRow)
	}
	for _, n := range []int{24001, 30000, 1 << 18} {
		checkError(t, slices.Repeat([]api.Row{good}, n), api.ErrScannerCount)
		checkError(t, slices.Repeat([]api.Row{bad}, n), api.ErrScannerCount)
	}
}

func TestOutletsOfRows(t *testing.T) {
	texts := []string{"", "O", "oO", "o o", " o", "o ", "o_", "o/", "o\n", "\n", "o\x00", "\xff", "\u00f6", "o\u00f6", "-", ".", "-o", ".o", "o-", "o.", "0", "0.-", "z9"}
	for n := 23; n < 27; n++ {
		texts = append(texts, strings.Repeat("o", n), "o"+strings.Repeat("-", n-1), strings.Repeat("-", n))
	}
	for b := range 256 {
		texts = append(texts, string([]byte{byte(b)}), string([]byte{'o', byte(b)}))
	}
	for _, outlet := range texts {
		checkRow(t, row(outlet, cola, 5, 1, 1), nameForm.MatchString(outlet))
	}
}

func TestProductsOfRows(t *testing.T) {
	for _, id := range []string{cola, tea, water, juice, "0000000000000", "9638507", "96385073", "963850740", "", "4006381333930", "400638133393", "40063813339310", "x6385074", "9638507x", "96385074 ", "cola"} {
		checkRow(t, row("o", id, 5, 1, 1), wantID(id))
	}
	for digit := range 10 {
		id := cola[:7] + string(rune('0'+digit))
		checkRow(t, row("o", id, 5, 1, 1), digit == 4)
	}
}

func TestNumbersOfRows(t *testing.T) {
	for _, period := range []int{math.MinInt, -6000, -1, 0, 1, 5, 5998, 5999, 6000, 6001, math.MaxInt} {
		checkRow(t, row("o", cola, period, 1, 1), period >= 0 && period < 6000)
	}
	for _, n := range []int64{math.MinInt64, -1 << 40, -1, 0, 1, 2, 1<<40 - 1, 1 << 40, 1<<40 + 1, 1 << 41, math.MaxInt64} {
		valid := n > 0 && n <= 1<<40
		checkRow(t, row("o", cola, 5, n, 1), valid)
		checkRow(t, row("o", cola, 5, 1, n), valid)
		checkRow(t, row("o", cola, 5, n, n), valid)
	}
	checkRow(t, api.Row{}, false)
}
