package vintage

import (
	"math"
	"math/rand/v2"
	"slices"
	"strings"
	"testing"

	"priceoffice/api"
)

func checkFile(t *testing.T, f api.File) {
	t.Helper()
	if e, want := Validate(f), verdict(f); e != want {
		t.Errorf("%s: %v, want %v", brief(f), e, want)
	}
}

func checkFileIs(t *testing.T, f api.File, want api.Errno) {
	t.Helper()
	if e := Validate(f); e != want {
		t.Errorf("%s: %v, want %v", brief(f), e, want)
	}
	checkFile(t, f)
}

// examples has a valid file of each kind.
func examples() []api.File {
	return []api.File{
		ofMessages("m", 10, priced("a", 1, 100), decides("b", 7, "a", 1), priced("a", 1, 100)),
		ofRows("a", 7, 10, row(cola, 5, 2, 300), row(tea, 5, 1, 1), row(cola, 5, 2, 300)),
		ofRates("9", 1000, 10, rate(cola, 5, 500, 100, 20, 0, 30), rate(tea, 5999, 0, 0, 0)),
	}
}

// TestErrorsInTheirOrder breaks every set of the conditions: the error is that of the first one.
func TestErrorsInTheirOrder(t *testing.T) {
	breaks := []func(f *api.File){
		func(f *api.File) { f.ID = "A" },
		func(f *api.File) { f.Version = 1001 },
		func(f *api.File) { f.Received = -1 },
		func(f *api.File) { f.Kind = 4 },
		func(f *api.File) {
			f.Messages, f.Rows, f.Rates = append(f.Messages, api.Message{}), append(f.Rows, api.Row{}), append(f.Rates, api.Rate{})
		},
	}
	errors := []api.Errno{api.ErrVintageID, api.ErrVintageVersion, api.ErrVintageReceived, api.ErrVintageKind, api.ErrVintageContent, api.OK}
	for _, f := range examples() {
		for set := range 1 << len(breaks) {
			broken, first := f, len(breaks)
			for k, change := range breaks {
				if set>>k&1 == 1 {
					change(&broken)
					first = min(first, k)
				}
			}
			checkFileIs(t, broken, errors[first])
		}
	}
	checkFileIs(t, api.File{}, api.ErrVintageID)
	checkFileIs(t, api.File{ID: "a"}, api.ErrVintageVersion)
	checkFileIs(t, api.File{ID: "a", Version: 1}, api.ErrVintageKind)
	checkFileIs(t, api.File{ID: "a", Version: 1, Kind: api.FileRates}, api.OK)
}

func TestIDsOfFiles(t *testing.T) {
	list := []string{"", "a", "0", "a.-0", "-", ".a", "A", "a b", "\u00e4", "a\n", "a\x00", strings.Repeat("z", 1<<16)}
	for n := 22; n < 28; n++ {
		list = append(list, strings.Repeat("z", n))
	}
	for _, id := range list {
		for _, f := range examples() {
			f.ID = id
			checkFile(t, f)
		}
	}
	checkFileIs(t, ofRows(strings.Repeat("z", 24), 1, 0), api.OK)
	checkFileIs(t, ofRows(strings.Repeat("z", 25), 1, 0), api.ErrVintageID)
}

func TestNumbersOfFiles(t *testing.T) {
	for _, n := range []int{math.MinInt, -1, 0, 1, 2, 3, 4, 5, 6, 999, 1000, 1001, 182619, 182620, 182621, 1<<32 + 1, math.MaxInt} {
		for _, f := range examples() {
			for _, change := range []func(f *api.File){
				func(f *api.File) { f.Version = n },
				func(f *api.File) { f.Received = n },
				func(f *api.File) { f.Kind = n },
				func(f *api.File) { f.Version, f.Kind = 1, n },
				func(f *api.File) { f.Version, f.Kind, f.Messages, f.Rows, f.Rates = n, n, nil, nil, nil },
			} {
				changed := f
				change(&changed)
				checkFile(t, changed)
			}
		}
	}
	for _, version := range []int{0, 2, 1000, 1001} {
		f := ofMessages("m", 0)
		f.Version = version
		checkFileIs(t, f, api.ErrVintageVersion)
	}
	for _, version := range []int{0, 1001} {
		checkFileIs(t, ofRows("a", version, 0), api.ErrVintageVersion)
		checkFileIs(t, ofRates("a", version, 0), api.ErrVintageVersion)
	}
	checkFileIs(t, ofRows("a", 1000, 182620), api.OK)
	checkFileIs(t, ofRates("a", 1, 0), api.OK)
	checkFileIs(t, ofMessages("m", 182620), api.OK)
	checkFileIs(t, ofMessages("m", 182621), api.ErrVintageReceived)
}

// TestListsOfOtherKinds fills the lists that a kind does not have, with valid elements.
func TestListsOfOtherKinds(t *testing.T) {
	whole := examples()
	for kind := range 5 {
		for set := range 8 {
			f := api.File{ID: "a", Version: 1, Kind: kind}
			if set&1 != 0 {
				f.Messages = whole[0].Messages
			}
			if set&2 != 0 {
				f.Rows = whole[1].Rows
			}
			if set&4 != 0 {
				f.Rates = whole[2].Rates
			}
			want := api.ErrVintageContent
			switch {
			case kind < 1 || kind > 3:
				want = api.ErrVintageKind
			case set == 0 || set == 1<<(kind-1):
				want = api.OK
			}
			checkFileIs(t, f, want)
			// An empty list is none.
			f.Messages, f.Rows, f.Rates = append([]api.Message{}, f.Messages...), append([]api.Row{}, f.Rows...), append([]api.Rate{}, f.Rates...)
			checkFileIs(t, f, want)
		}
	}
}

func TestSizesOfLists(t *testing.T) {
	for _, x := range []struct {
		size int
		want api.Errno
	}{{1, api.OK}, {399, api.OK}, {400, api.OK}, {401, api.ErrVintageContent}, {5000, api.ErrVintageContent}} {
		checkFileIs(t, ofMessages("m", 0, slices.Repeat([]api.Message{priced("a", 1, 1)}, x.size)...), x.want)
		checkFileIs(t, ofRows("a", 1, 0, slices.Repeat([]api.Row{row(cola, 1, 1, 1)}, x.size)...), x.want)
		checkFileIs(t, ofRates("a", 1, 0, slices.Repeat([]api.Rate{rate(cola, 1, 1, 0, 1)}, x.size)...), x.want)
	}
}

// TestElementsThatAreNotValid has one in each place of a list.
func TestElementsThatAreNotValid(t *testing.T) {
	for place := range 4 {
		messages, rows, rates := slices.Repeat([]api.Message{priced("a", 1, 1)}, 4), slices.Repeat([]api.Row{row(cola, 1, 1, 1)}, 4), slices.Repeat([]api.Rate{rate(cola, 1, 1, 0, 1)}, 4)
		for _, m := range []api.Message{{}, priced("", 1, 1), priced("a", 0, 1), priced("a", 1, 0), priced("a", 1, api.MaxPrice+1), decides("a", 1, "b", 0), decides("a", 1, "", 1)} {
			messages[place] = m
			checkFileIs(t, ofMessages("m", 0, messages...), api.ErrVintageContent)
		}
		for _, r := range []api.Row{{}, row("", 1, 1, 1), row("96385073", 1, 1, 1), row(cola, -1, 1, 1), row(cola, 6000, 1, 1), row(cola, 1, 0, 1), row(cola, 1, 1, 0), row(cola, 1, api.MaxPrice+1, 1), row(cola, 1, 1, api.MaxPrice+1), {Outlet: "O", Product: cola, Period: 1, Units: 1, Turnover: 1}} {
			rows[place] = r
			checkFileIs(t, ofRows("a", 1, 0, rows...), api.ErrVintageContent)
		}
		for _, r := range badRates() {
			rates[place] = r
			checkFileIs(t, ofRates("a", 1, 0, rates...), api.ErrVintageContent)
		}
	}
}

// badRates lists rates that break one condition each.
func badRates() []api.Rate {
	list := []api.Rate{
		{}, rate("", 1, 1, 0, 1), rate("96385073", 1, 1, 0, 1), rate("9638507", 1, 1, 0, 1), rate(cola+" ", 1, 1, 0, 1), rate(cola, -1, 1, 0, 1), rate(cola, 6000, 1, 0, 1), rate(cola, math.MinInt, 1, 0, 1), rate(cola, math.MaxInt, 1, 0, 1),
		rate(cola, 1, -1, 0, 1), rate(cola, 1, api.MaxPrice+1, 0, 1), rate(cola, 1, 1), rate(cola, 1, 1, 9, 1), rate(cola, 1, 1, 0, 1, 0, 1), rate(cola, 1, 1, 5, 1, 5, 1, 0, 1), rate(cola, 1, 1, 0, -1), rate(cola, 1, 1, 0, api.MaxPrice+1),
	}
	for _, outlet := range []string{"", "O", "-o", "o o", strings.Repeat("o", 25)} {
		r := rate(cola, 1, 1, 0, 1)
		r.Outlet = outlet
		list = append(list, r)
	}
	return list
}

func TestRatesAtTheirLimits(t *testing.T) {
	long := rate(tea, 1, 1, 0, 1)
	long.Outlet = strings.Repeat("0", 24)
	for _, r := range []api.Rate{long, rate(water, 0, 0, 0, 0), rate(cola, 5999, api.MaxPrice, 1, 0, api.MaxQuantity, api.MaxPrice, 0, 0), rate(cola, 1, 0, 1, 1, 2, 1, 3, 1, 4, 1, 5, 1, 6, 1, 7, 1, 0, 1)} {
		checkFileIs(t, ofRates("a", 1, 0, r), api.OK)
	}
	checkFileIs(t, ofRates("a", 1, 0, rate(cola, 1, 0, 1, 1, 2, 1, 3, 1, 4, 1, 5, 1, 6, 1, 7, 1, 8, 1, 0, 1)), api.ErrVintageContent)
}

func TestRandomFiles(t *testing.T) {
	random := rand.New(rand.NewPCG(1, 44))
	count := map[api.Errno]int{}
	for range 5000 {
		f := randomFile(random)
		checkFile(t, f)
		count[Validate(f)]++
	}
	if len(count) != 6 || count[api.OK] < 3000 {
		t.Error("some error is missing", count)
	}
}
