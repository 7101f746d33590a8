package vintage

import (
	"cmp"
	"fmt"
	"math/rand/v2"
	"reflect"
	"regexp"
	"slices"
	"strings"

	"priceoffice/api"
	"priceoffice/collection"
	"priceoffice/scanner"
	"priceoffice/tariff"
)

const (
	cola  = "96385074"
	tea   = "4006381333931"
	water = "00000000"
)

func row(product string, period int, units, turnover int64) api.Row {
	return api.Row{Outlet: "o", Product: product, Period: period, Units: units, Turnover: turnover}
}

func priced(device string, number int, price int64) api.Message {
	v := api.Visit{Outlet: "o", Product: cola, Period: 5, Day: 36583, Status: api.StatusPriced, Price: price}
	return api.Message{Device: device, Sequence: number, Kind: api.MessageVisit, Visit: v}
}

func decides(device string, number int, other string, chosen int) api.Message {
	d := api.Decision{Outlet: "o", Product: cola, Period: 5, Device: other, Number: chosen}
	return api.Message{Device: device, Sequence: number, Kind: api.MessageDecision, Decision: d}
}

// rate makes a rate of a standing charge and of pairs of UpTo and Price.
func rate(product string, period int, standing int64, pairs ...int64) api.Rate {
	t := api.Tariff{Standing: standing}
	for pair := range slices.Chunk(pairs, 2) {
		t.Blocks = append(t.Blocks, api.Block{UpTo: pair[0], Price: pair[1]})
	}
	return api.Rate{Outlet: "o", Product: product, Period: period, Tariff: t}
}

func ofMessages(id string, received int, list ...api.Message) api.File {
	return api.File{ID: id, Version: 1, Received: received, Kind: api.FileMessages, Messages: list}
}

func ofRows(id string, version, received int, list ...api.Row) api.File {
	return api.File{ID: id, Version: version, Received: received, Kind: api.FileRows, Rows: list}
}

func ofRates(id string, version, received int, list ...api.Rate) api.File {
	return api.File{ID: id, Version: version, Received: received, Kind: api.FileRates, Rates: list}
}

// brief returns the beginning of a text of a value, since a long one in a message helps nobody.
func brief(value any) string {
	text := fmt.Sprintf("%+v", value)
	return text[:min(len(text), 1000)]
}

func on(f api.File, day int) api.File {
	f.Received = day
	return f
}

var nameForm = regexp.MustCompile(`\A[a-z0-9][a-z0-9.-]{0,23}\z`)

// wantID is the definition of an ID.
func wantID(id string) bool {
	if strings.Trim(id, "0123456789") != "" || len(id) != 8 && len(id) != 13 {
		return false
	}
	sum := 0
	for i := range id {
		weight := 1
		if (len(id)-i)%2 == 0 {
			weight = 3
		}
		sum += weight * int(id[i]-'0')
	}
	return sum%10 == 0
}

func wantRate(r api.Rate) bool {
	return nameForm.MatchString(r.Outlet) && wantID(r.Product) && 0 <= r.Period && r.Period <= 5999 && tariff.Validate(r.Tariff) == api.OK
}

// verdict describes the errors of files independently of the package.
func verdict(f api.File) api.Errno {
	if !nameForm.MatchString(f.ID) {
		return api.ErrVintageID
	}
	if f.Version < 1 || f.Version > 1000 || f.Kind == 1 && f.Version > 1 {
		return api.ErrVintageVersion
	}
	if f.Received < 0 || f.Received > 182620 {
		return api.ErrVintageReceived
	}
	if f.Kind < 1 || f.Kind > 3 {
		return api.ErrVintageKind
	}
	for kind, size := range []int{1: len(f.Messages), 2: len(f.Rows), 3: len(f.Rates)} {
		if kind == f.Kind && size > 400 || kind != f.Kind && size > 0 {
			return api.ErrVintageContent
		}
	}
	bad := slices.ContainsFunc(f.Messages, func(m api.Message) bool { return collection.Validate(m) != api.OK })
	bad = bad || slices.ContainsFunc(f.Rates, func(r api.Rate) bool { return !wantRate(r) })
	if bad || scanner.Validate(f.Rows) != api.OK {
		return api.ErrVintageContent
	}
	return api.OK
}

// wantText writes any value field by field, in the order of its type, which is that of the canonical text.
func wantText(v reflect.Value) string {
	switch v.Kind() {
	case reflect.String:
		return fmt.Sprintf("%d:%s,", v.Len(), v.String())
	case reflect.Int, reflect.Int64:
		return fmt.Sprintf("%d,", v.Int())
	}
	var text strings.Builder
	if v.Kind() == reflect.Slice {
		fmt.Fprintf(&text, "%d,", v.Len())
		for i := range v.Len() {
			text.WriteString(wantText(v.Index(i)))
		}
		return text.String()
	}
	for i := range v.NumField() {
		if v.Type().Field(i).Name != "Received" {
			text.WriteString(wantText(v.Field(i)))
		}
	}
	return text.String()
}

// content returns a file without its day, its empty lists being nil.
func content(f api.File) api.File {
	f = owned(f)
	f.Received = 0
	return f
}

// owned returns a file in memory of its own, its empty lists being nil.
func owned(f api.File) api.File {
	f.Messages, f.Rows, f.Rates = slices.Concat(f.Messages), slices.Concat(f.Rows), slices.Concat(f.Rates)
	for i := range f.Rates {
		f.Rates[i].Tariff.Blocks = slices.Concat(f.Rates[i].Tariff.Blocks)
	}
	return f
}

func ownedList(files []api.File) []api.File {
	var list []api.File
	for _, f := range files {
		list = append(list, owned(f))
	}
	return list
}

func sameContent(a, b api.File) bool {
	return reflect.DeepEqual(content(a), content(b))
}

func sameFiles(a, b []api.File) bool {
	return reflect.DeepEqual(ownedList(a), ownedList(b))
}

// place returns a text for a valid file; bytewise, these texts are in the order of Normalize.
func place(f api.File) string {
	return fmt.Sprintf("%-24s%5d%7d%s", f.ID, f.Version, f.Received, wantText(reflect.ValueOf(f)))
}

// wantNormalize drops each valid file that another one of the list stands for.
func wantNormalize(files []api.File) []api.File {
	var list []api.File
	for i, f := range files {
		better := func(k int) bool {
			other := files[k]
			return sameContent(f, other) && other.Received >= 0 && (other.Received < f.Received || other.Received == f.Received && k < i)
		}
		represented := false
		for k := range files {
			represented = represented || better(k)
		}
		if verdict(f) == api.OK && !represented {
			list = append(list, f)
		}
	}
	slices.SortFunc(list, func(a, b api.File) int { return cmp.Compare(place(a), place(b)) })
	return list
}

// wantParts returns View and Conflicts by comparing each file with each other one.
func wantParts(files []api.File, day int) (view, conflicts []api.File) {
	var known []api.File
	for _, f := range wantNormalize(files) {
		if f.Received <= day {
			known = append(known, f)
		}
	}
	rivals := func(f api.File) bool {
		return slices.ContainsFunc(known, func(other api.File) bool {
			return other.ID == f.ID && other.Version == f.Version && !sameContent(f, other)
		})
	}
	outdated := func(f api.File) bool {
		return f.Kind != 1 && slices.ContainsFunc(known, func(other api.File) bool {
			return other.ID == f.ID && other.Kind != 1 && other.Version > f.Version && !rivals(other)
		})
	}
	for _, f := range known {
		switch {
		case rivals(f):
			conflicts = append(conflicts, f)
		case !outdated(f):
			view = append(view, f)
		}
	}
	return view, conflicts
}

func wantChanged(files []api.File, first, second int) []api.File {
	before, _ := wantParts(files, first)
	after, _ := wantParts(files, second)
	return slices.DeleteFunc(after, func(f api.File) bool {
		return slices.ContainsFunc(before, func(other api.File) bool { return sameContent(f, other) })
	})
}

// wantRates looks for the rate of each slot of a small space.
func wantRates(files []api.File, outlets, products []string, periods []int) []api.Rate {
	var list []api.Rate
	for _, outlet := range outlets {
		for _, product := range products {
			for _, period := range periods {
				is := func(r api.Rate) bool {
					return r.Outlet == outlet && r.Product == product && r.Period == period && wantRate(r)
				}
				var last []api.Rate
				for _, f := range files {
					if i := slices.IndexFunc(f.Rates, is); i >= 0 {
						last = []api.Rate{f.Rates[i]}
					}
				}
				list = append(list, last...)
			}
		}
	}
	return list
}

// pick returns some element of a list.
func pick[T any](random *rand.Rand, list ...T) T {
	return list[random.IntN(len(list))]
}

// randomContent gives a file one of few contents, so that equal ones are frequent.
func randomContent(random *rand.Rand, f *api.File) {
	n := random.IntN(3)
	switch f.Kind {
	case api.FileMessages:
		f.Messages = []api.Message{priced("d", 1, 100), priced("d", 1, 120), decides("e", 2, "d", 1)}[n : n+random.IntN(2)]
	case api.FileRows:
		f.Rows = []api.Row{row(cola, 5, 1, 10), row(cola, 5, 1, 9), row(tea, 10, 2, 300)}[n : n+random.IntN(2)]
	default:
		f.Rates = []api.Rate{rate(cola, 5, 1, 0, 2), rate(cola, 5, 1, 9, 2, 0, 1), rate(tea, 5, 0, 0, 2)}[n : n+random.IntN(2)]
	}
}

// randomFile returns a file of few IDs, versions and days, most often a valid one.
func randomFile(random *rand.Rand) api.File {
	f := api.File{ID: pick(random, "a", "a", "a", "a-", "b"), Version: 1 + random.IntN(3), Received: random.IntN(13), Kind: 1 + random.IntN(3)}
	if f.Kind == api.FileMessages && random.IntN(10) > 0 {
		f.Version = 1
	}
	randomContent(random, &f)
	switch random.IntN(30) {
	case 0:
		f.ID = pick(random, "", "A", ".a")
	case 1:
		f.Version = pick(random, 0, -1, 1001)
	case 2:
		f.Received = pick(random, -1, 182621)
	case 3:
		f.Kind = pick(random, 0, 1, 2, 3, 4)
	case 4:
		f.Rows = append(f.Rows, api.Row{})
	}
	return f
}

func randomFiles(random *rand.Rand, most int) []api.File {
	var list []api.File
	for range random.IntN(most + 1) {
		f := randomFile(random)
		list = append(list, f)
		if random.IntN(4) == 0 {
			list = append(list, on(f, random.IntN(13)))
		}
	}
	random.Shuffle(len(list), func(i, k int) { list[i], list[k] = list[k], list[i] })
	return list
}
