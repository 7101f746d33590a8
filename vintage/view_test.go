package vintage

import (
	"fmt"
	"math"
	"math/rand/v2"
	"slices"
	"testing"

	"priceoffice/api"
)

func checkFiles(t *testing.T, what string, got, want []api.File) {
	t.Helper()
	if !sameFiles(got, want) {
		t.Errorf("%s: %+v, want %+v", what, got, want)
	}
}

// someDays are the days around those of random files, and some that are none.
func someDays() []int {
	days := []int{math.MinInt, -1, 182620, math.MaxInt}
	for day := range 14 {
		days = append(days, day)
	}
	return days
}

func TestNormalize(t *testing.T) {
	a, b := ofRows("b", 2, 20, row(cola, 5, 2, 300)), ofRows("b", 2, 30, row(cola, 5, 2, 301))
	m, r := ofMessages("b", 50, priced("d", 1, 1)), ofRates("b", 1, 40, rate(cola, 5, 1, 0, 1))
	for i, x := range []struct{ list, want []api.File }{
		{nil, nil},
		{[]api.File{a}, []api.File{a}},
		{[]api.File{{}, ofRows("", 1, 1), on(a, -1), ofRows("b", 0, 1)}, nil},
		{[]api.File{b, a, m, r, {}}, []api.File{r, m, a, b}},
		// Of equal contents the first day counts, and takes the file to its place.
		{[]api.File{a, on(a, 5), a, on(a, 19)}, []api.File{on(a, 5)}},
		{[]api.File{on(a, 31), b, on(a, 32)}, []api.File{b, on(a, 31)}},
		{[]api.File{on(b, 20), a, on(b, 19), b, on(a, 20)}, []api.File{on(b, 19), a}},
		// A file without a day does not count, also not as the first one.
		{[]api.File{on(a, -1), a, on(a, math.MinInt)}, []api.File{a}},
		// IDs bytewise, versions and days by their size.
		{[]api.File{ofRows("a0", 1, 1), ofRows("a.", 1, 1), ofRows("aa", 1, 1), ofRows("a-", 1, 1), ofRows("a", 10, 1), ofRows("a", 9, 1)}, []api.File{ofRows("a", 9, 1), ofRows("a", 10, 1), ofRows("a-", 1, 1), ofRows("a.", 1, 1), ofRows("a0", 1, 1), ofRows("aa", 1, 1)}},
		{[]api.File{on(a, 100), on(b, 99), ofRows("b", 2, 9, row(tea, 5, 1, 1))}, []api.File{ofRows("b", 2, 9, row(tea, 5, 1, 1)), on(b, 99), on(a, 100)}},
		// On the same day the texts decide: "10," is before "9,", and "13:" before "8:".
		{[]api.File{ofRows("b", 2, 1, row(cola, 5, 9, 1)), ofRows("b", 2, 1, row(cola, 5, 10, 1)), ofRows("b", 2, 1, row(tea, 5, 10, 1))}, []api.File{ofRows("b", 2, 1, row(tea, 5, 10, 1)), ofRows("b", 2, 1, row(cola, 5, 10, 1)), ofRows("b", 2, 1, row(cola, 5, 9, 1))}},
	} {
		checkFiles(t, fmt.Sprint("Normalize ", i), Normalize(x.list), x.want)
		back := slices.Clone(x.list)
		slices.Reverse(back)
		checkFiles(t, fmt.Sprint("Normalize, back ", i), Normalize(back), x.want)
		checkFiles(t, fmt.Sprint("the description of Normalize ", i), wantNormalize(x.list), x.want)
	}
}

// checkDay checks View and Conflicts of one day.
func checkDay(t *testing.T, files []api.File, day int, view, conflicts []api.File) {
	t.Helper()
	checkFiles(t, fmt.Sprint("View of day ", day), View(files, day), view)
	checkFiles(t, fmt.Sprint("Conflicts of day ", day), Conflicts(files, day), conflicts)
}

func TestViewOfTheExample(t *testing.T) {
	one, two, rival := ofRows("a", 1, 10, row(cola, 5, 1, 1)), ofRows("a", 2, 20, row(cola, 5, 1, 2)), ofRows("a", 2, 30, row(cola, 5, 1, 3))
	files := []api.File{rival, two, one}
	for _, x := range []struct {
		day             int
		view, conflicts []api.File
	}{
		{math.MinInt, nil, nil}, {9, nil, nil}, {10, []api.File{one}, nil}, {15, []api.File{one}, nil}, {19, []api.File{one}, nil}, {20, []api.File{two}, nil}, {29, []api.File{two}, nil},
		{30, []api.File{one}, []api.File{two, rival}}, {math.MaxInt, []api.File{one}, []api.File{two, rival}},
	} {
		checkDay(t, files, x.day, x.view, x.conflicts)
	}
}

func TestEditionsInConflict(t *testing.T) {
	rows := func(version, day int, units int64) api.File { return ofRows("a", version, day, row(cola, 5, units, 1)) }
	one, two, three := rows(1, 1, 1), rows(2, 2, 1), rows(3, 3, 1)
	rivals := []api.File{rows(1, 4, 2), rows(2, 4, 2), rows(3, 4, 2)}
	for i, x := range []struct{ files, view, conflicts []api.File }{
		{[]api.File{one, two, three}, []api.File{three}, nil},
		{[]api.File{one, two, three, rivals[0]}, []api.File{three}, []api.File{one, rivals[0]}},
		{[]api.File{one, two, three, rivals[1]}, []api.File{three}, []api.File{two, rivals[1]}},
		{[]api.File{one, two, three, rivals[2]}, []api.File{two}, []api.File{three, rivals[2]}},
		{[]api.File{one, two, three, rivals[1], rivals[2]}, []api.File{one}, []api.File{two, rivals[1], three, rivals[2]}},
		{[]api.File{one, two, three, rivals[0], rivals[1], rivals[2]}, nil, []api.File{one, rivals[0], two, rivals[1], three, rivals[2]}},
		// Three files of one edition are all in conflict.
		{[]api.File{one, two, rivals[1], rows(2, 1, 3)}, []api.File{one}, []api.File{rows(2, 1, 3), two, rivals[1]}},
		// The same content again is none, however late.
		{[]api.File{one, two, on(two, 4), on(two, 1), on(one, 4)}, []api.File{on(two, 1)}, nil},
		// Editions of different IDs have nothing to do with each other.
		{[]api.File{one, ofRows("b", 1, 1, row(cola, 5, 2, 1)), ofRows("a-", 2, 1)}, []api.File{one, ofRows("a-", 2, 1), ofRows("b", 1, 1, row(cola, 5, 2, 1))}, nil},
		// Files that are not valid are in no conflict.
		{[]api.File{one, rows(1, 1, 0), rows(1, -1, 2), rows(1, 182621, 2)}, []api.File{one}, nil},
	} {
		checkDay(t, x.files, 4, x.view, x.conflicts)
		if t.Failed() {
			t.Fatal(i)
		}
	}
}

// TestKindsOfOneID has files of different kinds, which are in conflict only if they have the same version.
func TestKindsOfOneID(t *testing.T) {
	m, other := ofMessages("a", 1, priced("d", 1, 1)), ofMessages("a", 2, priced("d", 1, 2))
	rowsOne, ratesOne := ofRows("a", 1, 1), ofRates("a", 1, 1)
	two, three := ofRows("a", 2, 1), ofRates("a", 3, 2)
	for i, x := range []struct {
		files           []api.File
		day             int
		view, conflicts []api.File
	}{
		{[]api.File{m, two}, 1, []api.File{m, two}, nil},
		{[]api.File{m, two, three}, 1, []api.File{m, two}, nil},
		{[]api.File{m, two, three}, 2, []api.File{m, three}, nil},
		{[]api.File{m, rowsOne, two}, 2, []api.File{two}, []api.File{m, rowsOne}},
		{[]api.File{m, ratesOne}, 2, nil, []api.File{m, ratesOne}},
		{[]api.File{rowsOne, ratesOne, three}, 2, []api.File{three}, []api.File{rowsOne, ratesOne}},
		{[]api.File{m, other, two}, 1, []api.File{m, two}, nil},
		{[]api.File{m, other, two}, 2, []api.File{two}, []api.File{m, other}},
		{[]api.File{m, ofRates("a", 2, 2), two}, 2, []api.File{m}, []api.File{two, ofRates("a", 2, 2)}},
		{[]api.File{m, ofMessages("b", 1, priced("d", 1, 1)), ofMessages("c", 2)}, 2, []api.File{m, ofMessages("b", 1, priced("d", 1, 1)), ofMessages("c", 2)}, nil},
	} {
		checkDay(t, x.files, x.day, x.view, x.conflicts)
		if t.Failed() {
			t.Fatal(i)
		}
	}
}

func TestChanged(t *testing.T) {
	one, two, rival := ofRows("a", 1, 10, row(cola, 5, 1, 1)), ofRows("a", 2, 20, row(cola, 5, 1, 2)), ofRows("a", 2, 30, row(cola, 5, 1, 3))
	m := ofMessages("m", 15, priced("d", 1, 1))
	files := []api.File{two, m, one, rival, on(m, 25), on(one, 26)}
	for _, x := range []struct {
		first, second int
		want          []api.File
	}{
		{9, 9, nil}, {9, 10, []api.File{one}}, {10, 15, []api.File{m}}, {9, 15, []api.File{one, m}}, {15, 20, []api.File{two}}, {9, 20, []api.File{two, m}}, {20, 29, nil},
		// One counts again, since two does not.
		{20, 30, []api.File{one}}, {15, 30, nil}, {30, 20, []api.File{two}}, {30, 10, nil}, {20, 10, []api.File{one}}, {math.MinInt, math.MaxInt, []api.File{one, m}}, {math.MaxInt, math.MinInt, nil},
	} {
		checkFiles(t, fmt.Sprint("Changed from ", x.first, " to ", x.second), Changed(files, x.first, x.second), x.want)
	}
}

// TestScatteredFiles compares with the descriptions, and has the consequences.
func TestScatteredFiles(t *testing.T) {
	random := rand.New(rand.NewPCG(3, 44))
	views, conflicts, changes := 0, 0, 0
	for range 400 {
		files := randomFiles(random, 12)
		checkFiles(t, "Normalize", Normalize(files), wantNormalize(files))
		for _, day := range someDays() {
			view, void := wantParts(files, day)
			checkDay(t, files, day, view, void)
			second := pick(random, someDays()...)
			changed := wantChanged(files, day, second)
			checkFiles(t, "Changed", Changed(files, day, second), changed)
			views, conflicts, changes = views+len(view), conflicts+len(void), changes+len(changed)
		}
		if t.Failed() {
			t.Fatalf("%+v", files)
		}
	}
	if views < 9000 || conflicts < 5000 || changes < 2000 {
		t.Error("the files are too plain", views, conflicts, changes)
	}
}

// TestTheSetOfFilesDecides has lists in another order, with repetitions, some of them on later days.
func TestTheSetOfFilesDecides(t *testing.T) {
	random := rand.New(rand.NewPCG(4, 44))
	for range 300 {
		files := randomFiles(random, 12)
		again := slices.Concat(files, Normalize(files), files[:len(files)/2], []api.File{{}, ofRows("a", 0, 1)})
		for _, f := range files {
			if f.Received >= 0 {
				again = append(again, on(f, f.Received+random.IntN(5)))
			}
		}
		random.Shuffle(len(again), func(i, k int) { again[i], again[k] = again[k], again[i] })
		checkFiles(t, "Normalize", Normalize(again), Normalize(files))
		checkFiles(t, "Normalize twice", Normalize(Normalize(files)), Normalize(files))
		for _, day := range someDays() {
			checkDay(t, again, day, View(files, day), Conflicts(files, day))
			checkFiles(t, "Changed", Changed(again, day, 7), Changed(files, day, 7))
			// What is received behind the day does not matter.
			later := slices.DeleteFunc(slices.Clone(files), func(f api.File) bool { return f.Received > day })
			checkDay(t, later, day, View(files, day), Conflicts(files, day))
		}
		if t.Failed() {
			t.Fatalf("%+v", files)
		}
	}
}

// TestManyFiles has so many files that nothing may take time by pairs of them.
func TestManyFiles(t *testing.T) {
	var plain, rivals []api.File
	for i := range 50000 {
		plain = append(plain, ofRows(fmt.Sprint("f", i%5000), 1+i/5000, 10, row(cola, i%6000, 1, 1)))
		rivals = append(rivals, ofRows("a", 1, 10, row(cola, 1, 1, int64(i+1))))
	}
	if view := View(slices.Concat(plain, plain), 10); len(view) != 5000 || view[0].Version != 10 {
		t.Error(len(view))
	}
	if void := Conflicts(plain, 10); len(void) != 0 {
		t.Error(len(void))
	}
	if void := Conflicts(slices.Concat(rivals, plain), 10); len(void) != 50000 {
		t.Error(len(void))
	}
	if changed := Changed(slices.Concat(rivals, plain), 9, 10); len(changed) != 5000 {
		t.Error(len(changed))
	}
}
