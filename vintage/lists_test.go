package vintage

import (
	"math/rand/v2"
	"reflect"
	"slices"
	"testing"

	"priceoffice/api"
	"priceoffice/collection"
	"priceoffice/scanner"
)

// whole makes a file of any lists, which need not be valid.
func whole(messages []api.Message, rows []api.Row, rates []api.Rate) api.File {
	return api.File{Messages: messages, Rows: rows, Rates: rates}
}

func checkRates(t *testing.T, files []api.File, want ...api.Rate) {
	t.Helper()
	if got := Rates(files); !sameFiles([]api.File{whole(nil, nil, got)}, []api.File{whole(nil, nil, want)}) {
		t.Errorf("Rates of %+v: %+v, want %+v", files, got, want)
	}
}

func TestMessages(t *testing.T) {
	a, b, c := priced("a", 1, 5), priced("b", 2, 5), decides("b", 1, "a", 1)
	for i, x := range []struct {
		files []api.File
		want  []api.Message
	}{
		{nil, nil},
		{[]api.File{{}, ofRows("r", 1, 1, row(cola, 5, 1, 1))}, nil},
		{[]api.File{ofMessages("m", 1, b, a)}, []api.Message{a, b}},
		{[]api.File{ofMessages("m", 1, b), ofMessages("n", 0, a, b), ofMessages("m", 1, c, a)}, []api.Message{a, c, b}},
		// Messages of a cloned mark are all there.
		{[]api.File{ofMessages("m", 1, a), ofMessages("n", 1, priced("a", 1, 4))}, []api.Message{priced("a", 1, 4), a}},
		// Any file will do, but not any message.
		{[]api.File{whole([]api.Message{{}, b, priced("a", 0, 5)}, []api.Row{{}}, []api.Rate{{}}), {ID: "A", Version: -1, Kind: api.FileRates, Messages: []api.Message{a}}}, []api.Message{a, b}},
	} {
		if got := Messages(x.files); !slices.Equal(got, x.want) {
			t.Error(i, got)
		}
	}
}

func TestRows(t *testing.T) {
	r := row(cola, 5, 2, 300)
	elsewhere := r
	elsewhere.Outlet = "n"
	for i, x := range []struct {
		files []api.File
		want  []api.Row
	}{
		{nil, nil},
		{[]api.File{{}, ofMessages("m", 1, priced("a", 1, 5))}, nil},
		{[]api.File{ofRows("a", 1, 1, r, row(tea, 5, 1, 1), elsewhere)}, []api.Row{elsewhere, row(tea, 5, 1, 1), r}},
		// Repeated files and rows add up.
		{[]api.File{ofRows("a", 1, 1, r, r), ofRows("a", 1, 1, r, r), ofRows("b", 1, 1, row(cola, 5, 1, 1))}, []api.Row{row(cola, 5, 9, 1201)}},
		{[]api.File{ofRows("a", 1, 1, r), ofRows("b", 1, 1, row(cola, 6, 1, 1)), ofRows("c", 1, 1, row(cola, 4, 1, 1))}, []api.Row{row(cola, 4, 1, 1), r, row(cola, 6, 1, 1)}},
		{[]api.File{whole([]api.Message{{}}, []api.Row{{}, row(cola, 5, 0, 300), r, row(cola, 5, 1, -1), row(cola, 6000, 1, 1)}, []api.Rate{{}}), {ID: "A", Kind: api.FileRates, Rows: []api.Row{r}}}, []api.Row{row(cola, 5, 4, 600)}},
		{[]api.File{ofRows("a", 1, 1, row(cola, 5, 1<<40, 1<<40)), ofRows("b", 1, 1, row(cola, 5, 1<<40, 1<<40), row(cola, 5, 1<<40+1, 1))}, []api.Row{row(cola, 5, 2<<40, 2<<40)}},
	} {
		if got := Rows(x.files); !slices.Equal(got, x.want) {
			t.Error(i, got)
		}
	}
}

// TestMostRows has as many valid rows as scanner.Combine accepts, and one more.
func TestMostRows(t *testing.T) {
	const most = api.MaxFiles * api.MaxFileRows
	long := whole(nil, slices.Repeat([]api.Row{row(cola, 5, 1<<40, 2)}, most), nil)
	files := []api.File{ofRows("a", 1, 1, make([]api.Row, 1000)...), long, ofRows("a", 1, 1, row(cola, 5, 0, 1))}
	if got := Rows(files); !slices.Equal(got, []api.Row{row(cola, 5, most<<40, 2*most)}) {
		t.Error(got)
	}
	if got := Rows(append(files, ofRows("a", 1, 1, row(tea, 5, 1, 1)))); len(got) != 0 {
		t.Error(got)
	}
}

func TestRates(t *testing.T) {
	a, b, bad := rate(cola, 5, 1, 0, 1), rate(cola, 5, 2, 9, 2, 0, 1), rate(cola, 5, -1, 0, 1)
	later := rate(tea, 5, 3, 0, 1)
	elsewhere := a
	elsewhere.Outlet = "n"
	checkRates(t, nil)
	checkRates(t, []api.File{{}, ofRows("r", 1, 1, row(cola, 5, 1, 1))})
	checkRates(t, []api.File{ofRates("a", 1, 1, a)}, a)
	// The first rate of the last file counts, whatever the days and versions.
	checkRates(t, []api.File{ofRates("a", 1, 1, a, b)}, a)
	checkRates(t, []api.File{ofRates("a", 1, 1, b, a)}, b)
	checkRates(t, []api.File{ofRates("a", 2, 9, a), ofRates("a", 1, 1, b)}, b)
	checkRates(t, []api.File{ofRates("a", 2, 9, a, a), ofRates("a", 1, 1, b, a), ofRates("a", 1, 1, later)}, later, b)
	checkRates(t, []api.File{ofRates("a", 1, 1, b), ofRates("a", 1, 1, a), ofRates("a", 1, 1)}, a)
	// A rate that is not valid neither counts nor keeps another one from counting.
	checkRates(t, []api.File{ofRates("a", 1, 1, a), ofRates("a", 1, 1, bad)}, a)
	checkRates(t, []api.File{ofRates("a", 1, 1, a), ofRates("a", 1, 1, bad, b)}, b)
	checkRates(t, []api.File{ofRates("a", 1, 1, badRates()...), whole([]api.Message{{}}, []api.Row{{}}, append(badRates(), b)), ofRates("b", 1, 1, badRates()...)}, b)
	checkRates(t, []api.File{{ID: "A", Version: -1, Kind: api.FileMessages, Rates: []api.Rate{a}}}, a)
	// Slots differ in outlet, product or period, and are sorted by these.
	checkRates(t, []api.File{ofRates("a", 1, 1, rate(cola, 10, 1, 0, 1), a, rate(water, 99, 1, 0, 1), rate(cola, 9, 1, 0, 1), later, elsewhere)}, elsewhere, rate(water, 99, 1, 0, 1), later, a, rate(cola, 9, 1, 0, 1), rate(cola, 10, 1, 0, 1))
}

// mixed returns a file of any kind with elements in all lists, some of them not valid.
func mixed(random *rand.Rand) api.File {
	f := api.File{ID: pick(random, "", "a"), Kind: random.IntN(5), Received: random.IntN(3) - 1}
	outlet := func() string { return pick(random, "o", "o", "o-", "n", "O") }
	for range random.IntN(5) {
		m := pick(random, priced("a", 1, 5), priced("b", 1, 5), priced("b", 1, 6), decides("c", 1, "b", 1), priced("a", 0, 5))
		f.Messages = append(f.Messages, m)
	}
	for range random.IntN(5) {
		r := row(pick(random, cola, tea, ""), 8+random.IntN(4), random.Int64N(4), 1+random.Int64N(5))
		r.Outlet = outlet()
		f.Rows = append(f.Rows, r)
	}
	for range random.IntN(5) {
		r := rate(pick(random, cola, tea, ""), 9+random.IntN(2), random.Int64N(9)-1, pick(random, []int64{0, 1}, []int64{5, 2, 0, 1}, nil)...)
		r.Outlet = outlet()
		f.Rates = append(f.Rates, r)
	}
	return f
}

// TestMixedFiles compares with the descriptions, for any lists of files.
func TestMixedFiles(t *testing.T) {
	random := rand.New(rand.NewPCG(5, 44))
	count := 0
	for range 3000 {
		var files []api.File
		for range random.IntN(5) {
			files = append(files, mixed(random))
		}
		var messages []api.Message
		var rows []api.Row
		for _, f := range files {
			messages = collection.Merge(f.Messages, messages)
			valid := slices.DeleteFunc(slices.Clone(f.Rows), func(r api.Row) bool { return scanner.Validate([]api.Row{r}) != api.OK })
			rows, _ = scanner.Combine(append(rows, valid...))
		}
		if got := Messages(files); !slices.Equal(got, messages) {
			t.Errorf("Messages of %+v: %+v, want %+v", files, got, messages)
		}
		if got := Rows(files); !slices.Equal(got, rows) {
			t.Errorf("Rows of %+v: %+v, want %+v", files, got, rows)
		}
		rates := wantRates(files, []string{"n", "o", "o-"}, []string{tea, cola}, []int{9, 10})
		checkRates(t, files, rates...)
		count += len(rates)
	}
	if count < 3000 {
		t.Error("the files are too plain", count)
	}
}

// TestListsOfAView reads the lists of the files that count on a day.
func TestListsOfAView(t *testing.T) {
	files := []api.File{
		ofMessages("m", 10, priced("a", 1, 100)), ofMessages("n", 20, priced("a", 2, 120)),
		ofRows("r", 1, 10, row(cola, 5, 1, 10)), ofRows("r", 2, 20, row(cola, 5, 2, 40)), ofRows("s", 1, 20, row(cola, 5, 1, 1)),
		ofRates("t", 1, 10, rate(cola, 5, 1, 0, 1)), ofRates("t", 2, 20, rate(cola, 5, 2, 0, 1)), ofRates("u", 1, 20, rate(cola, 5, 3, 0, 1)),
	}
	for _, x := range []struct {
		day      int
		messages int
		rows     []api.Row
		rate     api.Rate
	}{{10, 1, []api.Row{row(cola, 5, 1, 10)}, rate(cola, 5, 1, 0, 1)}, {20, 2, []api.Row{row(cola, 5, 3, 41)}, rate(cola, 5, 3, 0, 1)}} {
		view := View(files, x.day)
		if m, r := Messages(view), Rows(view); len(m) != x.messages || !slices.Equal(r, x.rows) {
			t.Error(x.day, m, r)
		}
		if got := Rates(view); !reflect.DeepEqual(got, []api.Rate{x.rate}) {
			t.Error(x.day, got)
		}
	}
}
