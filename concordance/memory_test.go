package concordance

import (
	"math/rand/v2"
	"slices"
	"testing"

	"priceoffice/api"
)

// lent returns x in memory of its own, with spare capacity that must be neither read nor written.
func lent(x api.Ratio) api.Ratio {
	spare := func(n api.Nat) api.Nat { return append(slices.Clone(n), 11, 12, 13, 14, 15, 16)[:len(n)] }
	return api.Ratio{Neg: x.Neg, Num: spare(x.Num), Den: spare(x.Den)}
}

func lentLinks(links []api.Link) []api.Link {
	var memory []api.Link
	for _, x := range links {
		memory = append(memory, api.Link{From: x.From, To: x.To, Share: lent(x.Share)})
	}
	return append(memory, link("x", "y", 21, 22), link("z", "", 23, 24))[:len(links)]
}

func lentAmounts(amounts []api.Amount) []api.Amount {
	var memory []api.Amount
	for _, a := range amounts {
		memory = append(memory, api.Amount{Code: a.Code, Value: lent(a.Value)})
	}
	return append(memory, amount("x", 31, 32), amount("", 33, 34))[:len(amounts)]
}

// identicalMemory reports whether two numbers agree in all their limbs, spare capacity included.
func identicalMemory(x, y api.Ratio) bool {
	same := func(a, b api.Nat) bool { return slices.Equal(a[:cap(a)], b[:cap(b)]) }
	return x.Neg == y.Neg && same(x.Num, y.Num) && same(x.Den, y.Den)
}

// untouched reports whether a lent list is as it was lent, with the two links behind it.
func untouched(links, lent []api.Link) bool {
	return slices.EqualFunc(links[:len(links)+2], lent[:len(lent)+2], func(x, y api.Link) bool {
		return x.From == y.From && x.To == y.To && identicalMemory(x.Share, y.Share)
	})
}

func untouchedAmounts(amounts, lent []api.Amount) bool {
	return slices.EqualFunc(amounts[:len(amounts)+2], lent[:len(lent)+2], func(x, y api.Amount) bool {
		return x.Code == y.Code && identicalMemory(x.Value, y.Value)
	})
}

// overwrite changes all the memory of a result's numbers, part by part; no other part may change with it.
func overwrite(t *testing.T, name string, result []api.Ratio) {
	t.Helper()
	var limbs []api.Nat
	for _, x := range result {
		limbs = append(limbs, x.Num[:cap(x.Num)], x.Den[:cap(x.Den)])
	}
	for i, n := range limbs {
		others := func() api.Nat { return slices.Concat(slices.Concat(limbs[:i]...), slices.Concat(limbs[i+1:]...)) }
		before := others()
		for k := range n {
			n[k] = ^n[k]
		}
		if !slices.Equal(others(), before) {
			t.Error(name, "shares memory within its result")
		}
	}
}

func shares(links []api.Link) []api.Ratio {
	var out []api.Ratio
	for _, x := range links[:cap(links)] {
		out = append(out, x.Share)
	}
	clear(links[:cap(links)])
	return out
}

func values(amounts []api.Amount) []api.Ratio {
	var out []api.Ratio
	for _, a := range amounts[:cap(amounts)] {
		out = append(out, a.Value)
	}
	clear(amounts[:cap(amounts)])
	return out
}

func TestArgumentsAreNeitherChangedNorShared(t *testing.T) {
	calls := map[string]func(links, other []api.Link, amounts []api.Amount) []api.Ratio{
		"Convert": func(links, other []api.Link, amounts []api.Amount) []api.Ratio {
			got, _ := Convert(links, amounts)
			return values(got)
		},
		"Compose": func(links, other []api.Link, amounts []api.Amount) []api.Ratio {
			got, _ := Compose(links, other)
			return shares(got)
		},
		"Reverse": func(links, other []api.Link, amounts []api.Amount) []api.Ratio {
			got, _ := Reverse(links, amounts)
			return shares(got)
		},
		"Unsplit": func(links, other []api.Link, amounts []api.Amount) []api.Ratio { return shares(Unsplit(links)) },
		"Validate": func(links, other []api.Link, amounts []api.Amount) []api.Ratio {
			Validate(links, listed(closed(sources(links))...), listed("01", "02"))
			return nil
		},
	}
	random := rand.New(rand.NewPCG(22, 7))
	next := scatteredLinks(23)
	for i := range 40 {
		links := next()
		if i == 0 {
			links = split()
		}
		other := linksBetween(random, targets(links), leafCodes)
		for _, amounts := range [][]api.Amount{valued(random, sources(links), 1), {amount("x", 1, 1)}, nil} {
			for name, call := range calls {
				gotLinks, gotOther, gotAmounts := lentLinks(links), lentLinks(other), lentAmounts(amounts)
				overwrite(t, name, call(gotLinks, gotOther, gotAmounts))
				if !untouched(gotLinks, lentLinks(links)) || !untouched(gotOther, lentLinks(other)) || !untouchedAmounts(gotAmounts, lentAmounts(amounts)) {
					t.Error(name, i, "changed an argument")
				}
			}
		}
	}
}

// TestNumbersOfOneMemory has lists whose numbers share their limbs.
func TestNumbersOfOneMemory(t *testing.T) {
	half := lent(fraction(1, 2))
	links := []api.Link{{From: "01", To: "01", Share: half}, {From: "01", To: "02", Share: half}}
	for range 2 {
		got, e := Convert(links, []api.Amount{{Code: "01", Value: half}})
		if e != api.OK || !sameAmounts(got, []api.Amount{amount("01", 1, 4), amount("02", 1, 4)}) {
			t.Error(got, e)
		}
		overwrite(t, "Convert", values(got))
		back, e := Reverse(links, []api.Amount{{Code: "01", Value: half}})
		if e != api.OK || !sameLinks(back, []api.Link{link("01", "01", 1, 1), link("02", "01", 1, 1)}) {
			t.Error(back, e)
		}
		overwrite(t, "Reverse", shares(back))
		overwrite(t, "Unsplit", shares(Unsplit([]api.Link{{Share: half}, {From: "01", To: "02", Share: half}})))
		overwrite(t, "Identity", shares(Identity(listed("01", "02", "03"))))
	}
	if !identicalMemory(half, lent(fraction(1, 2))) {
		t.Error("changed", half)
	}
}

func TestClassificationsAreNotChanged(t *testing.T) {
	memory := []string{"01", "01.1", "02", "03", "x"}
	c := api.Classification{Name: "goods", Codes: memory[:3]}
	links := Identity(c)
	if !sameLinks(links, []api.Link{link("01.1", "01.1", 1, 1), link("02", "02", 1, 1)}) || Validate(links, c, c) != api.OK {
		t.Error(links)
	}
	if !slices.Equal(memory, []string{"01", "01.1", "02", "03", "x"}) || c.Name != "goods" || len(c.Codes) != 3 {
		t.Error("an argument was changed", memory, c)
	}
}
