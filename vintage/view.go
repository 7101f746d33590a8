package vintage

import (
	"cmp"
	"slices"

	"priceoffice/api"
)

// entry is a valid file with its canonical text.
type entry struct {
	api.File
	text string
}

// edition is what only one content may have: files of one edition are in conflict.
type edition struct {
	id      string
	version int
}

// Normalize returns the valid files, sorted, without repetition.
func Normalize(files []api.File) []api.File {
	return copied(entries(files))
}

// View returns the files that count on a day.
func View(files []api.File, day int) []api.File {
	return copied(counting(known(entries(files), day)))
}

// Conflicts returns the files that are void on a day.
func Conflicts(files []api.File, day int) []api.File {
	all := known(entries(files), day)
	groups := byEdition(all)
	return copied(kept(all, func(e entry) bool { return len(groups[editionOf(e)]) > 1 }))
}

// Changed returns the files that count on the second day and not on the first.
func Changed(files []api.File, first, second int) []api.File {
	all := entries(files)
	before := map[string]bool{}
	for _, e := range counting(known(all, first)) {
		before[e.text] = true
	}
	return copied(kept(counting(known(all, second)), func(e entry) bool { return !before[e.text] }))
}

// entries returns the valid files of a list, each content once with its first day, sorted.
func entries(files []api.File) []entry {
	first := map[string]api.File{}
	for _, f := range files {
		if Validate(f) != api.OK {
			continue
		}
		text := Encode(f)
		if other, found := first[text]; !found || f.Received < other.Received {
			first[text] = f
		}
	}
	var all []entry
	for text, f := range first {
		all = append(all, entry{f, text})
	}
	// No two texts are equal, so the order does not depend on that of the map.
	slices.SortFunc(all, compareEntries)
	return all
}

func compareEntries(a, b entry) int {
	return cmp.Or(cmp.Compare(a.ID, b.ID), cmp.Compare(a.Version, b.Version), cmp.Compare(a.Received, b.Received), cmp.Compare(a.text, b.text))
}

// known returns the entries that were received up to a day.
func known(all []entry, day int) []entry {
	return kept(all, func(e entry) bool { return e.Received <= day })
}

// counting returns, of the entries that are known on a day, those that count.
func counting(all []entry) []entry {
	groups := byEdition(all)
	last := map[string]int{}
	for key, group := range groups {
		if len(group) == 1 && group[0].Kind != api.FileMessages {
			last[key.id] = max(last[key.id], key.version)
		}
	}
	return kept(all, func(e entry) bool {
		return len(groups[editionOf(e)]) == 1 && (e.Kind == api.FileMessages || e.Version == last[e.ID])
	})
}

func byEdition(all []entry) map[edition][]entry {
	groups := map[edition][]entry{}
	for _, e := range all {
		groups[editionOf(e)] = append(groups[editionOf(e)], e)
	}
	return groups
}

func editionOf(e entry) edition {
	return edition{e.ID, e.Version}
}

// kept returns the entries of a list that are wanted, in their order.
func kept(all []entry, wanted func(e entry) bool) []entry {
	var list []entry
	for _, e := range all {
		if wanted(e) {
			list = append(list, e)
		}
	}
	return list
}

// copied returns the files of entries in new memory.
func copied(all []entry) []api.File {
	var files []api.File
	for _, e := range all {
		f := e.File
		f.Messages, f.Rows, f.Rates = cloned(f.Messages), cloned(f.Rows), copiedRates(f.Rates)
		files = append(files, f)
	}
	return files
}

func copiedRates(rates []api.Rate) []api.Rate {
	var list []api.Rate
	for _, r := range rates {
		r.Tariff.Blocks = cloned(r.Tariff.Blocks)
		list = append(list, r)
	}
	return list
}

// cloned returns a list in new memory. Unlike that of slices.Clone, an empty result does not point into the argument.
func cloned[T any](list []T) []T {
	return append([]T(nil), list...)
}
