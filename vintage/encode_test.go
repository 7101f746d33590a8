package vintage

import (
	"math"
	"math/rand/v2"
	"reflect"
	"strings"
	"testing"

	"priceoffice/api"
)

func checkText(t *testing.T, f api.File) {
	t.Helper()
	if text, want := Encode(f), wantText(reflect.ValueOf(f)); text != want {
		t.Errorf("Encode of %+v: %q, want %q", f, text, want)
	}
}

// full has a different value in each field.
func full() api.File {
	v := api.Visit{Outlet: "o1", Product: "p2", Period: 3, Day: 4, Status: 5, Price: 6, Replacement: "r7"}
	d := api.Decision{Outlet: "o8", Product: "p9", Period: 10, Device: "d11", Number: 12}
	return api.File{
		ID: "i13", Version: 14, Received: 15, Kind: 16,
		Messages: []api.Message{{Device: "d17", Sequence: 18, Kind: 19, Visit: v, Decision: d}, {Device: "d20"}},
		Rows:     []api.Row{{Outlet: "o21", Product: "p22", Period: 23, Units: 24, Turnover: 25}, {Turnover: 26}},
		Rates:    []api.Rate{{Outlet: "o27", Product: "p28", Period: 29, Tariff: api.Tariff{Standing: 30, Blocks: []api.Block{{UpTo: 31, Price: 32}, {Price: 33}}}}, {}},
	}
}

func TestTexts(t *testing.T) {
	negative := api.File{ID: "", Version: math.MinInt, Received: 1, Kind: -1, Rows: []api.Row{{Units: math.MinInt64, Turnover: math.MaxInt64}}}
	for _, x := range []struct {
		f    api.File
		want string
	}{
		{ofRows("a", 1, 3, row(cola, 5, 2, 300)), "1:a,1,2,0,1,1:o,8:96385074,5,2,300,0,"},
		{api.File{}, "0:,0,0,0,0,0,"},
		{negative, "0:,-9223372036854775808,-1,0,1,0:,0:,0,-9223372036854775808,9223372036854775807,0,"},
		{full(), "3:i13,14,16,2,3:d17,18,19,2:o1,2:p2,3,4,5,6,2:r7,2:o8,2:p9,10,3:d11,12,3:d20,0,0,0:,0:,0,0,0,0,0:,0:,0:,0,0:,0," +
			"2,3:o21,3:p22,23,24,25,0:,0:,0,0,26,2,3:o27,3:p28,29,30,2,31,32,0,33,0:,0:,0,0,0,"},
		// Lengths are those in bytes, and the bytes of a string are written as they are.
		{api.File{ID: "\u00f6,\x00\xff:\n"}, "7:\u00f6,\x00\xff:\n,0,0,0,0,0,"},
		{api.File{ID: strings.Repeat("x", 1000)}, "1000:" + strings.Repeat("x", 1000) + ",0,0,0,0,0,"},
	} {
		if text := Encode(x.f); text != x.want {
			t.Errorf("%q, want %q", text, x.want)
		}
		checkText(t, x.f)
	}
	for _, f := range examples() {
		checkText(t, f)
	}
}

// parts returns all numbers and strings of a value, which must be addressable.
func parts(v reflect.Value) []reflect.Value {
	var list []reflect.Value
	switch v.Kind() {
	case reflect.Struct:
		for i := range v.NumField() {
			list = append(list, parts(v.Field(i))...)
		}
	case reflect.Slice:
		for i := range v.Len() {
			list = append(list, parts(v.Index(i))...)
		}
	default:
		list = append(list, v)
	}
	return list
}

// TestEachPartIsWritten changes the numbers and strings of a file one by one.
func TestEachPartIsWritten(t *testing.T) {
	texts := map[string]int{Encode(full()): -1}
	count := len(parts(reflect.ValueOf(new(full())).Elem()))
	for i := range count {
		f := full()
		part := parts(reflect.ValueOf(&f).Elem())[i]
		if part.Kind() == reflect.String {
			part.SetString(part.String() + "x")
		} else {
			part.SetInt(part.Int() + 1000)
		}
		checkText(t, f)
		if other, found := texts[Encode(f)]; found != (f.Received != full().Received) {
			t.Error("parts", i, other, found)
		}
		texts[Encode(f)] = i
	}
	if count != 56 || len(texts) != count {
		t.Error(count, len(texts))
	}
}

// odd returns a string or a number of few, which can be taken for others if they are not told apart.
func odd(random *rand.Rand) string {
	return pick(random, "", "", "1", ",", ":", "1:", ",0", "0,", "0:,", "1:1", "a", "\u00e4", "\xff")
}

// oddFile fills a file with few odd values; most lists are short.
func oddFile(random *rand.Rand) api.File {
	number := func() int { return pick(random, 0, 0, 0, 1, -1, 10) }
	count := func() []struct{} { return make([]struct{}, pick(random, 0, 0, 0, 1, 1, 2)) }
	f := api.File{ID: odd(random), Version: number(), Received: number(), Kind: number()}
	for range count() {
		f.Messages = append(f.Messages, api.Message{Device: odd(random), Sequence: number(), Visit: api.Visit{Replacement: odd(random)}, Decision: api.Decision{Outlet: odd(random)}})
	}
	for range count() {
		f.Rows = append(f.Rows, api.Row{Outlet: odd(random), Product: odd(random), Turnover: int64(number())})
	}
	for range count() {
		r := api.Rate{Outlet: odd(random), Period: number()}
		for range count() {
			r.Tariff.Blocks = append(r.Tariff.Blocks, api.Block{UpTo: int64(number()), Price: int64(number())})
		}
		f.Rates = append(f.Rates, r)
	}
	return f
}

// TestEqualTextsAreEqualContents compares each of many odd files with those of the same text.
func TestEqualTextsAreEqualContents(t *testing.T) {
	random := rand.New(rand.NewPCG(2, 44))
	files, repeated := map[string]api.File{}, 0
	for range 50000 {
		f := oddFile(random)
		checkText(t, f)
		text := Encode(f)
		if other, found := files[text]; found {
			repeated++
			if !sameContent(f, other) {
				t.Errorf("%+v and %+v have the text %q", f, other, text)
			}
		}
		files[text] = f
	}
	if repeated < 500 || len(files) < 10000 {
		t.Error("the files are too plain", repeated, len(files))
	}
}

func TestTheTextOfEqualContents(t *testing.T) {
	bare := api.File{ID: "a", Version: 1, Kind: 3, Rates: []api.Rate{{Outlet: "o"}}}
	empty := bare
	empty.Received, empty.Messages, empty.Rows = 77, []api.Message{}, []api.Row{{}}[:0]
	empty.Rates = []api.Rate{{Outlet: "o", Tariff: api.Tariff{Blocks: []api.Block{}}}}
	if a, b := Encode(bare), Encode(empty); a != b || a != "1:a,1,3,0,0,1,1:o,0:,0,0,0," {
		t.Errorf("%q and %q", a, b)
	}
}
