package collection

import (
	"math/rand/v2"
	"slices"
	"testing"

	"priceoffice/api"
)

// marks returns the marks of a device with some numbers.
func marks(device string, numbers ...int) []api.Mark {
	var list []api.Mark
	for _, number := range numbers {
		list = append(list, mark(device, number))
	}
	return list
}

// span returns the marks of a device from a first number to a last one.
func span(device string, first, last int) []api.Mark {
	var list []api.Mark
	for number := first; number <= last; number++ {
		list = append(list, mark(device, number))
	}
	return list
}

func checkMarks(t *testing.T, list []api.Message) {
	t.Helper()
	if got, want := Cloned(list), wantCloned(list); !slices.Equal(got, want) {
		t.Errorf("%+v: Cloned %v, want %v", list, got, want)
	}
	if got, want := Gaps(list), wantGaps(list); !slices.Equal(got, want) {
		t.Errorf("%+v: Gaps %v, want %v", list, got, want)
	}
}

func TestCloned(t *testing.T) {
	day := priced("a", 2, 100)
	day.Visit.Day--
	for i, x := range []struct {
		list []api.Message
		want []api.Mark
	}{
		{nil, nil},
		{[]api.Message{priced("a", 1, 100), priced("a", 2, 100), priced("b", 1, 100)}, nil},
		// The same message does not clone its mark, however often it is sent.
		{[]api.Message{priced("a", 1, 100), priced("a", 1, 100), priced("a", 1, 100)}, nil},
		{[]api.Message{priced("a", 1, 100), priced("a", 1, 100), priced("a", 1, 120)}, marks("a", 1)},
		{[]api.Message{priced("a", 1, 100), priced("a", 1, 120), priced("a", 1, 100)}, marks("a", 1)},
		{[]api.Message{priced("a", 1, 100), priced("a", 1, 110), priced("a", 1, 120), priced("a", 1, 130)}, marks("a", 1)},
		{[]api.Message{day, priced("a", 2, 100)}, marks("a", 2)},
		{[]api.Message{priced("a", 1, 100), decides("a", 1, "a", 1)}, marks("a", 1)},
		{[]api.Message{decides("a", 1, "a", 1), decides("a", 1, "a", 2)}, marks("a", 1)},
		// A message that is not valid clones no mark.
		{[]api.Message{priced("a", 1, 100), priced("a", 1, 0), {Device: "a", Sequence: 1}}, nil},
		{[]api.Message{priced("a", 0, 100), priced("a", 0, 120), priced("", 1, 100), priced("", 1, 120)}, nil},
		{[]api.Message{priced("b", 1, 1), priced("a", 10, 1), priced("aa", 1, 1), priced("a", 9, 1), priced("a", 9, 2), priced("b", 1, 2), priced("aa", 1, 2), priced("a", 10, 2)}, slices.Concat(marks("a", 9, 10), marks("aa", 1), marks("b", 1))},
	} {
		if got := Cloned(x.list); !slices.Equal(got, x.want) {
			t.Error(i, got)
		}
		checkMarks(t, x.list)
	}
}

func TestGaps(t *testing.T) {
	for i, x := range []struct {
		list []api.Message
		want []api.Mark
	}{
		{nil, nil},
		{[]api.Message{priced("a", 1, 100)}, nil},
		{[]api.Message{priced("a", 2, 100)}, marks("a", 1)},
		{[]api.Message{priced("a", 4, 100), priced("a", 1, 100)}, marks("a", 2, 3)},
		{[]api.Message{priced("a", 1, 100), decides("a", 2, "a", 1), decides("a", 5, "a", 1), priced("a", 4, 100)}, marks("a", 3)},
		// A cloned mark is no gap.
		{[]api.Message{priced("a", 2, 100), priced("a", 2, 120), priced("a", 4, 100)}, marks("a", 1, 3)},
		// What is not valid neither fills a gap nor leaves one.
		{[]api.Message{priced("a", 3, 100), priced("a", 2, 0), priced("a", 1, 100), priced("a", 9, 0), priced("b", 9, 0)}, marks("a", 2)},
		{[]api.Message{priced("a", api.MaxSequence+1, 100), priced("a", 1, 100)}, nil},
		{[]api.Message{priced("b", 2, 1), priced("aa", 3, 1), priced("a", 11, 1), priced("a", 5, 1)}, slices.Concat(marks("a", 1, 2, 3, 4, 6, 7, 8, 9, 10), marks("aa", 1, 2), marks("b", 1))},
	} {
		if got := Gaps(x.list); !slices.Equal(got, x.want) {
			t.Error(i, got)
		}
		checkMarks(t, x.list)
	}
}

func TestGapsAtTheirLimit(t *testing.T) {
	for _, x := range []struct{ last, want int }{{api.MaxMessages, 399}, {api.MaxMessages + 1, 400}, {api.MaxMessages + 2, 400}, {api.MaxSequence, 400}} {
		if got := Gaps([]api.Message{priced("a", x.last, 1)}); !slices.Equal(got, span("a", 1, x.want)) {
			t.Error(x.last, len(got))
		}
	}
	// The limit is one of gaps, not of numbers, and each device has its own.
	var list []api.Message
	for _, sent := range slices.Backward(span("b", 1, 1000)) {
		list = append(list, priced(sent.Device, sent.Sequence, 1))
	}
	list = append(list, priced("b", 1200, 1), priced("b", 5000, 1), priced("c", 3, 1), priced("a", api.MaxSequence, 1))
	want := slices.Concat(span("a", 1, 400), span("b", 1001, 1199), span("b", 1201, 1401), span("c", 1, 2))
	if got := Gaps(list); !slices.Equal(got, want) {
		t.Error(len(got))
	}
}

func TestRandomMarks(t *testing.T) {
	random := rand.New(rand.NewPCG(4, 32))
	cloned, gaps := 0, 0
	for range 3000 {
		list := randomList(random, 12)
		checkMarks(t, list)
		cloned += min(1, len(Cloned(list)))
		gaps += min(1, len(Gaps(list)))
	}
	if cloned < 1000 || gaps < 1000 {
		t.Error("the lists are too plain", cloned, gaps)
	}
}
