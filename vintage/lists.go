package vintage

import (
	"cmp"
	"maps"
	"slices"

	"priceoffice/api"
	"priceoffice/collection"
	"priceoffice/scanner"
)

// slot is a product in an outlet and a period.
type slot struct {
	outlet, product string
	period          int
}

// Messages returns the messages of files.
func Messages(files []api.File) []api.Message {
	var messages []api.Message
	for _, f := range files {
		messages = append(messages, f.Messages...)
	}
	return collection.Merge(messages, nil)
}

// Rows returns the combined rows of files.
func Rows(files []api.File) []api.Row {
	var rows []api.Row
	for _, f := range files {
		for _, r := range f.Rows {
			if validRow(r) {
				rows = append(rows, r)
			}
		}
	}
	// The only error of valid rows is that there are too many, and with it there is no result.
	combined, _ := scanner.Combine(rows)
	return combined
}

// Rates returns the tariffs of files.
func Rates(files []api.File) []api.Rate {
	rates := map[slot]api.Rate{}
	for _, f := range slices.Backward(files) {
		for _, r := range f.Rates {
			if _, found := rates[slotOf(r)]; !found && validRate(r) {
				rates[slotOf(r)] = r
			}
		}
	}
	var list []api.Rate
	for _, key := range slices.SortedFunc(maps.Keys(rates), compareSlots) {
		list = append(list, rates[key])
	}
	return copiedRates(list)
}

func slotOf(r api.Rate) slot {
	return slot{r.Outlet, r.Product, r.Period}
}

func compareSlots(a, b slot) int {
	return cmp.Or(cmp.Compare(a.outlet, b.outlet), cmp.Compare(a.product, b.product), cmp.Compare(a.period, b.period))
}
