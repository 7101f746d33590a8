package vintage

import (
	"fmt"
	"math/rand/v2"
	"reflect"
	"slices"
	"testing"

	"priceoffice/api"
)

// calls are the functions of the package that take files and return lists.
func calls() map[string]func(files []api.File) any {
	return map[string]func(files []api.File) any{
		"Normalize": func(files []api.File) any { return Normalize(files) },
		"View":      func(files []api.File) any { return View(files, 7) },
		"Conflicts": func(files []api.File) any { return Conflicts(files, 12) },
		"Changed":   func(files []api.File) any { return Changed(files, 5, 9) },
		"Messages":  func(files []api.File) any { return Messages(files) },
		"Rows":      func(files []api.File) any { return Rows(files) },
		"Rates":     func(files []api.File) any { return Rates(files) },
	}
}

// roomy returns a list in memory of its own that goes on behind its end; that part must be neither read nor written.
func roomy[T any](list []T, behind ...T) []T {
	return slices.Concat(list, behind)[:len(list)]
}

// lend returns files whose lists have spare capacity.
func lend(files []api.File) []api.File {
	lent := roomy(files, ofRows("a", 3, 1, row(cola, 5, 9, 9)), ofMessages("zz", 1, priced("zz", 1, 1)), ofRates("b", 3, 1, rate(cola, 5, 9, 0, 1)))
	for i, f := range lent {
		f.Messages = roomy(f.Messages, priced("d", 1, 130), api.Message{})
		f.Rows = roomy(f.Rows, row(cola, 5, 8, 8), api.Row{})
		f.Rates = roomy(f.Rates, rate(cola, 5, 8, 0, 8), api.Rate{})
		for k := range f.Rates {
			f.Rates[k].Tariff.Blocks = roomy(f.Rates[k].Tariff.Blocks, api.Block{UpTo: 9, Price: 9}, api.Block{})
		}
		lent[i] = f
	}
	return lent
}

// memory lists the memory of all slices of a value, spare capacity included, as pairs of first and last address.
func memory(v reflect.Value) [][2]uintptr {
	var list [][2]uintptr
	switch v.Kind() {
	case reflect.Struct:
		for i := range v.NumField() {
			list = append(list, memory(v.Field(i))...)
		}
	case reflect.Slice:
		all := v.Slice(0, v.Cap())
		if all.Len() > 0 {
			list = append(list, [2]uintptr{all.Pointer(), all.Pointer() + uintptr(all.Len())*v.Type().Elem().Size() - 1})
		}
		for i := range all.Len() {
			list = append(list, memory(all.Index(i))...)
		}
	}
	return list
}

// common reports whether two of the areas overlap.
func common(areas [][2]uintptr) bool {
	slices.SortFunc(areas, func(a, b [2]uintptr) int { return slices.Compare(a[:], b[:]) })
	for i := range areas {
		if i > 0 && areas[i][0] <= areas[i-1][1] {
			return true
		}
	}
	return false
}

// text returns a text of a value, spare capacity included.
func text(v reflect.Value) string {
	if v.Kind() != reflect.Slice {
		return fmt.Sprintf("%+v", v)
	}
	return fmt.Sprintf("%+v", v.Slice(0, v.Cap()))
}

// allText returns a text of files, spare capacity included.
func allText(files []api.File) string {
	all := text(reflect.ValueOf(files))
	for _, f := range files {
		all += text(reflect.ValueOf(f.Messages)) + text(reflect.ValueOf(f.Rows)) + text(reflect.ValueOf(f.Rates))
		for _, r := range f.Rates {
			all += text(reflect.ValueOf(r.Tariff.Blocks))
		}
	}
	return all
}

// bare returns files whose lists have no spare capacity; empty ones are not nil.
func bare(files []api.File) []api.File {
	list := append([]api.File{}, files...)
	for i, f := range list {
		f.Messages, f.Rows, f.Rates = append([]api.Message{}, f.Messages...), append([]api.Row{}, f.Rows...), append([]api.Rate{}, f.Rates...)
		for k := range f.Rates {
			f.Rates[k].Tariff.Blocks = slices.Clip(append([]api.Block{}, f.Rates[k].Tariff.Blocks...))
		}
		f.Messages, f.Rows, f.Rates = slices.Clip(f.Messages), slices.Clip(f.Rows), slices.Clip(f.Rates)
		list[i] = f
	}
	return slices.Clip(list)
}

func TestArgumentsAreNeitherChangedNorShared(t *testing.T) {
	random := rand.New(rand.NewPCG(6, 44))
	for range 300 {
		files := randomFiles(random, 12)
		for name, call := range calls() {
			lent := lend(files)
			before := allText(lent)
			first, second := call(lent), call(lent)
			if allText(lent) != before {
				t.Errorf("%s changed %+v", name, files)
			}
			areas := slices.Concat(memory(reflect.ValueOf(lent)), memory(reflect.ValueOf(first)), memory(reflect.ValueOf(second)))
			if common(areas) {
				t.Errorf("%s of %+v shares memory", name, files)
			}
			if other := call(bare(files)); fmt.Sprint(first) != fmt.Sprint(second) || fmt.Sprint(first) != fmt.Sprint(other) {
				t.Errorf("%s of %+v: %+v, then %+v, and %+v without spare capacity", name, files, first, second, other)
			}
		}
		for i, f := range lend(files) {
			if Encode(f) != Encode(files[i]) || Validate(f) != Validate(files[i]) {
				t.Errorf("the spare capacity of %+v was read", f)
			}
		}
	}
}

// TestFilesOfTheSameMemory has files, and rates of a file, that share their lists. Those of the results do not.
func TestFilesOfTheSameMemory(t *testing.T) {
	r := rate(cola, 5, 1, 9, 2, 0, 1)
	elsewhere := r
	elsewhere.Period = 6
	rates, rows, messages := []api.Rate{r, elsewhere}, []api.Row{row(cola, 5, 1, 1), row(cola, 6, 1, 1)}, []api.Message{priced("d", 1, 1)}
	files := []api.File{ofRates("a", 1, 1, rates...), ofRates("b", 1, 1, rates...), ofRates("b", 1, 2, rates[:1]...), ofRows("c", 1, 6, rows...), ofRows("d", 1, 6, rows...), ofRows("d", 1, 6, rows[1:]...), ofMessages("e", 6, messages...), ofMessages("f", 6, messages...)}
	for name, call := range calls() {
		got := call(files)
		if common(memory(reflect.ValueOf(got))) || reflect.ValueOf(got).Len() == 0 {
			t.Errorf("the lists of %s share memory: %+v", name, got)
		}
	}
}

// TestEmptyListsAreNew has empty lists with spare capacity, to which nothing of a result leads.
func TestEmptyListsAreNew(t *testing.T) {
	f := lend([]api.File{ofRows("a", 1, 1)})[0]
	for _, got := range Normalize([]api.File{f}) {
		if cap(got.Messages)+cap(got.Rows)+cap(got.Rates) != 0 || reflect.ValueOf(got.Rows).Pointer() == reflect.ValueOf(f.Rows).Pointer() {
			t.Errorf("%+v shares memory", got)
		}
	}
}
