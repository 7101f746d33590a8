package concordance

import (
	"math/big"
	"math/rand/v2"
	"slices"
	"strconv"
	"testing"

	"priceoffice/api"
	"priceoffice/rational"
)

// mapped returns the sums as amounts, in order.
func mapped(sums map[string]*big.Rat) []api.Amount {
	places := map[string]api.Amount{}
	for code, sum := range sums {
		places[place(code)] = api.Amount{Code: code, Value: ratio(sum)}
	}
	return inOrder(places)
}

// sumsOf returns for each code at the end of a link the sum of what the function gives for the links.
func sumsOf(links []api.Link, end func(api.Link) string, part func(api.Link) *big.Rat) map[string]*big.Rat {
	sums := map[string]*big.Rat{}
	for _, x := range links {
		if p := part(x); p != nil {
			if sums[end(x)] == nil {
				sums[end(x)] = new(big.Rat)
			}
			sums[end(x)].Add(sums[end(x)], p)
		}
	}
	return sums
}

// valueAt returns the value of a code's amount, or nil.
func valueAt(amounts []api.Amount, code string) *big.Rat {
	for _, a := range amounts {
		if a.Code == code {
			return value(a.Value)
		}
	}
	return nil
}

// weighted returns the part of the amounts that a link carries, or nil.
func weighted(amounts []api.Amount) func(api.Link) *big.Rat {
	return func(x api.Link) *big.Rat {
		v := valueAt(amounts, x.From)
		if v != nil {
			v.Mul(v, value(x.Share))
		}
		return v
	}
}

func toOf(x api.Link) string { return x.To }

// conversion is what the document says of Convert for sound links and amounts whose codes have links.
func conversion(links []api.Link, amounts []api.Amount) []api.Amount {
	return mapped(sumsOf(links, toOf, weighted(amounts)))
}

// valued returns amounts of these codes; the values are from low on.
func valued(random *rand.Rand, codes []string, low int64) []api.Amount {
	var amounts []api.Amount
	for _, code := range codes {
		amounts = append(amounts, amount(code, low+random.Int64N(40), 1+random.Int64N(6)))
	}
	return amounts
}

func checkConvert(t *testing.T, links []api.Link, amounts []api.Amount) {
	t.Helper()
	want := conversion(links, amounts)
	for _, list := range [][]api.Amount{amounts, looseAmounts(amounts)} {
		if got, e := Convert(links, list); e != api.OK || !sameAmounts(got, want) {
			t.Error("Convert", links, list, got, e, want)
		}
		if got, e := Convert(looseLinks(links), list); e != api.OK || !sameAmounts(got, want) {
			t.Error("Convert of loose links", links, list, got, e, want)
		}
	}
}

func TestConvert(t *testing.T) {
	for i, x := range []struct {
		links         []api.Link
		amounts, want []api.Amount
	}{
		{split(), []api.Amount{amount("01", 8, 1), amount("02", 4, 1)}, []api.Amount{amount("01", 2, 1), amount("02", 10, 1)}},
		{split(), nil, nil}, {split(), []api.Amount{}, nil}, {split(), []api.Amount{amount("02", 4, 1)}, []api.Amount{amount("02", 4, 1)}}, {split(), []api.Amount{amount("01", 4, 1)}, []api.Amount{amount("01", 1, 1), amount("02", 3, 1)}},
		// What adds up to 0 is a result, too.
		{split(), []api.Amount{amount("01", 8, 1), amount("02", -6, 1)}, []api.Amount{amount("01", 2, 1), amount("02", 0, 1)}}, {split(), []api.Amount{amount("01", 0, 1)}, []api.Amount{amount("01", 0, 1), amount("02", 0, 1)}},
		{split(), []api.Amount{amount("01", -1, 3), amount("02", 1, 4)}, []api.Amount{amount("01", -1, 12), amount("02", 0, 1)}},
		{[]api.Link{link("01.2", "02.10", 1, 1), link("01.10", "02.2", 1, 3), link("01.10", "02.10", 2, 3)}, []api.Amount{amount("01.2", 1, 1), amount("01.10", 1, 1)}, []api.Amount{amount("02.2", 1, 3), amount("02.10", 5, 3)}},
	} {
		if got, e := Convert(x.links, x.amounts); e != api.OK || !sameAmounts(got, x.want) {
			t.Error(i, got, e, x.want)
		}
		checkConvert(t, x.links, x.amounts)
	}
}

func TestConvertScatteredAmounts(t *testing.T) {
	random := rand.New(rand.NewPCG(4, 7))
	next := scatteredLinks(5)
	for range 300 {
		links := next()
		from := sources(links)
		checkConvert(t, links, valued(random, from, -20))
		checkConvert(t, links, valued(random, scattered(random, from, 1+random.IntN(len(from))), -20))
	}
}

// checkRefused has amounts of codes that Convert refuses with this error, and Reverse as well.
func checkRefused(t *testing.T, links []api.Link, codes []string, want api.Errno) {
	t.Helper()
	var amounts []api.Amount
	for _, code := range codes {
		amounts = append(amounts, amount(code, 0, 1))
	}
	if got, e := Convert(links, amounts); e != want || len(got) != 0 {
		t.Error(codes, got, e)
	}
	if got, e := Reverse(links, amounts); e != api.ErrConcordanceAmounts || len(got) != 0 {
		t.Error(codes, got, e)
	}
}

func TestAmountsThatAreNotSorted(t *testing.T) {
	links := []api.Link{link("01.2", "02", 1, 1), link("01.10", "02", 1, 1), link("02", "02", 1, 1), link("02.1", "02", 1, 1)}
	for _, codes := range [][]string{
		{""}, {"x"}, {"1"}, {"01.02"}, {"", "01.2"}, {"01.2", ""}, {"01.2", "x"}, {"01.2", "01.2"}, {"01.10", "01.2"}, {"02", "01.2"}, {"02.1", "02"},
		{"01.2", "01.10", "01.10"}, {"01.2", "01.10", "02", "02.1", "02.01"}, {"01.2", "01.10", "02", "02.1", "01.2"},
		// The first codes have no links, which is the later error.
		{"03", "02"}, {"01", "01"}, {"01", "x"}, {"99", ""},
	} {
		checkRefused(t, links, codes, api.ErrConcordanceAmounts)
	}
}

func TestAmountsWithoutLinks(t *testing.T) {
	links := []api.Link{link("01.2", "02", 1, 1), link("01.10", "02", 1, 1), link("02", "03", 1, 1)}
	for _, codes := range [][]string{
		{"01"}, {"01", "01.2"}, {"01.1"}, {"01.1", "02"}, {"01.2", "01.3"}, {"01.2", "01.10", "01.11", "02"}, {"01.2", "01.10", "02", "02.1"}, {"03"}, {"02", "03"}, {"99.99.99.99.99"},
	} {
		checkRefused(t, links, codes, api.ErrConcordanceMissing)
	}
}

// TestLongLists has more amounts than there may be links, and the longest lists of links.
func TestLongLists(t *testing.T) {
	var amounts []api.Amount
	for i := range 99 * 99 {
		amounts = append(amounts, amount("01."+strconv.Itoa(1+i/99)+"."+strconv.Itoa(1+i%99), 1, 1))
	}
	if got, e := Convert(split(), amounts); e != api.ErrConcordanceMissing || len(got) != 0 {
		t.Error(len(got), e)
	}
	amounts = append(amounts, amounts[0])
	if got, e := Convert(split(), amounts); e != api.ErrConcordanceAmounts || len(got) != 0 {
		t.Error(len(got), e)
	}
	if got, e := Reverse(split(), amounts); e != api.ErrConcordanceAmounts || len(got) != 0 {
		t.Error(len(got), e)
	}
	random := rand.New(rand.NewPCG(6, 7))
	for _, width := range []int{1, 4, 5, 20, 40, 80, 400} {
		links := fan(400, width)
		amounts := valued(random, sources(links), 1)
		checkConvert(t, links, amounts)
		checkReverse(t, links, amounts)
	}
}

// products returns for each pair of codes that two lists connect the sum of the products of shares.
func products(first, second []api.Link) []api.Link {
	places := map[string]api.Link{}
	for _, x := range first {
		for _, y := range second {
			if x.To == y.From {
				pair := place(x.From) + " " + place(y.To)
				product := new(big.Rat).Mul(value(x.Share), value(y.Share))
				places[pair] = api.Link{From: x.From, To: y.To, Share: ratio(product.Add(product, value(places[pair].Share)))}
			}
		}
	}
	return inOrder(places)
}

func checkCompose(t *testing.T, first, second []api.Link) {
	t.Helper()
	want := products(first, second)
	for _, a := range [][]api.Link{first, looseLinks(first)} {
		for _, b := range [][]api.Link{second, looseLinks(second)} {
			got, e := Compose(a, b)
			if e != api.OK || !sameLinks(got, want) || unsound(got) != api.OK {
				t.Error("Compose", a, b, got, e, want)
			}
		}
	}
}

func TestCompose(t *testing.T) {
	for i, x := range []struct{ first, second, want []api.Link }{
		{split(), split(), []api.Link{link("01", "01", 1, 16), link("01", "02", 15, 16), link("02", "02", 1, 1)}},
		{[]api.Link{link("05", "01", 1, 1)}, split(), []api.Link{link("05", "01", 1, 4), link("05", "02", 3, 4)}},
		{split(), []api.Link{link("01", "10", 1, 1), link("02", "02.5", 1, 1)}, []api.Link{link("01", "02.5", 3, 4), link("01", "10", 1, 4), link("02", "02.5", 1, 1)}},
		{split(), []api.Link{link("01", "07", 1, 1), link("02", "07", 1, 1)}, []api.Link{link("01", "07", 1, 1), link("02", "07", 1, 1)}},
		{[]api.Link{link("01.2", "01", 1, 1), link("01.10", "02", 1, 1)}, split(), []api.Link{link("01.2", "01", 1, 4), link("01.2", "02", 3, 4), link("01.10", "02", 1, 1)}},
	} {
		if got, e := Compose(x.first, x.second); e != api.OK || !sameLinks(got, x.want) {
			t.Error(i, got, e)
		}
		checkCompose(t, x.first, x.second)
	}
}

func TestComposeScatteredLinks(t *testing.T) {
	random := rand.New(rand.NewPCG(8, 7))
	next := scatteredLinks(9)
	for range 200 {
		first := next()
		to := targets(first)
		checkCompose(t, first, linksBetween(random, to, leafCodes))
		checkCompose(t, first, linksBetween(random, leafCodes, to))
		if len(to) > 1 {
			lost := random.IntN(len(to))
			second := linksBetween(random, slices.Delete(slices.Clone(to), lost, lost+1), leafCodes)
			if got, e := Compose(first, second); e != api.ErrConcordanceMissing || len(got) != 0 {
				t.Error(first, second, got, e)
			}
		}
	}
}

func TestErrorsOfCompose(t *testing.T) {
	one := []api.Link{link("01", "02", 1, 1)}
	for i, x := range []struct {
		first, second []api.Link
		e             api.Errno
	}{
		{split(), one, api.ErrConcordanceMissing}, {split(), split()[2:], api.ErrConcordanceMissing}, {one, one, api.ErrConcordanceMissing},
		{split()[:1], nil, api.ErrConcordanceSum}, {nil, split()[:1], api.ErrConcordanceCount}, {split(), nil, api.ErrConcordanceCount}, {split(), split()[:1], api.ErrConcordanceSum}, {one, split()[:2], api.ErrConcordanceMissing},
	} {
		if got, e := Compose(x.first, x.second); e != x.e || len(got) != 0 {
			t.Error(i, got, e)
		}
	}
}

// TestLimitOfCompose has lists that lead to size times width links, and to some more through another code.
func TestLimitOfCompose(t *testing.T) {
	for _, x := range []struct{ size, width, more int }{
		{20, 20, 0}, {20, 20, 1}, {21, 20, 0}, {20, 21, 0}, {1, 400, 0}, {400, 1, 0}, {133, 3, 0}, {133, 3, 1}, {133, 3, 2}, {134, 3, 0}, {57, 7, 1}, {57, 7, 2}, {1, 399, 1}, {399, 1, 1}, {99, 99, 0}, {400, 400, 0},
	} {
		var first, second []api.Link
		for i := range x.size {
			first = append(first, link(nth(1, i), "07", 1, 1))
		}
		for i := range x.width {
			second = append(second, link("07", nth(1, i), 1, int64(x.width)))
		}
		for i := range x.more {
			first = append(first, link(nth(50, i), "08", 1, 1))
			second = append(second, link("08", nth(1, i), 1, int64(x.more)))
		}
		got, e := Compose(first, second)
		switch {
		case x.size*x.width+x.more*x.more <= 400:
			checkCompose(t, first, second)
		case e != api.ErrConcordanceCount || len(got) != 0:
			t.Error(x, len(got), e)
		}
		// A target without a link comes first.
		first[len(first)-1].To = "09"
		if got, e := Compose(first, second); e != api.ErrConcordanceMissing || len(got) != 0 {
			t.Error(x, len(got), e)
		}
	}
}

// TestComposeThroughManyCodes has lists whose pairs of links are far more than the composed links.
func TestComposeThroughManyCodes(t *testing.T) {
	var second []api.Link
	for i := range 400 {
		second = append(second, link(nth(2, i/20), nth(3, i%20), 1, 20))
	}
	got, e := Compose(fan(400, 20), second)
	if e != api.OK || len(got) != 400 || unsound(got) != api.OK || !identical(got[399].Share, fraction(1, 20)) {
		t.Error(len(got), e)
	}
	checkCompose(t, fan(400, 20), second)
}

// reversal is what the document says of Reverse where it returns no error.
func reversal(links []api.Link, amounts []api.Amount) []api.Link {
	part := weighted(amounts)
	sums := sumsOf(links, toOf, part)
	places := map[string]api.Link{}
	for _, x := range links {
		if share := part(x); share.Sign() > 0 {
			places[place(x.To)+" "+place(x.From)] = api.Link{From: x.To, To: x.From, Share: ratio(share.Quo(share, sums[x.To]))}
		}
	}
	return inOrder(places)
}

func checkReverse(t *testing.T, links []api.Link, amounts []api.Amount) {
	t.Helper()
	var want []api.Link
	wanted := api.ErrConcordanceZero
	if !slices.ContainsFunc(conversion(links, amounts), func(a api.Amount) bool { return len(a.Value.Num) == 0 }) {
		want, wanted = reversal(links, amounts), api.OK
	}
	for _, list := range [][]api.Amount{amounts, looseAmounts(amounts)} {
		for _, other := range [][]api.Link{links, looseLinks(links)} {
			if got, e := Reverse(other, list); e != wanted || !sameLinks(got, want) || e == api.OK && unsound(got) != api.OK {
				t.Error("Reverse", other, list, got, e, want, wanted)
			}
		}
	}
}

func TestReverse(t *testing.T) {
	for i, x := range []struct {
		links   []api.Link
		amounts []api.Amount
		want    []api.Link
		e       api.Errno
	}{
		{split(), []api.Amount{amount("01", 8, 1), amount("02", 4, 1)}, []api.Link{link("01", "01", 1, 1), link("02", "01", 3, 5), link("02", "02", 2, 5)}, api.OK},
		{split(), []api.Amount{amount("01", 8, 1), amount("02", 0, 1)}, []api.Link{link("01", "01", 1, 1), link("02", "01", 1, 1)}, api.OK},
		{split(), []api.Amount{amount("01", 1, 3), amount("02", 1, 4)}, []api.Link{link("01", "01", 1, 1), link("02", "01", 1, 2), link("02", "02", 1, 2)}, api.OK},
		{split(), []api.Amount{amount("01", 0, 1), amount("02", 4, 1)}, nil, api.ErrConcordanceZero}, {split(), []api.Amount{amount("01", 0, 1), amount("02", 0, 1)}, nil, api.ErrConcordanceZero},
		{[]api.Link{link("01.2", "02.10", 1, 1), link("01.10", "02.2", 1, 1)}, []api.Amount{amount("01.2", 5, 1), amount("01.10", 7, 1)}, []api.Link{link("02.2", "01.10", 1, 1), link("02.10", "01.2", 1, 1)}, api.OK},
		{[]api.Link{link("01.2", "02", 1, 1), link("01.10", "02", 1, 1)}, []api.Amount{amount("01.2", 5, 1), amount("01.10", 7, 1)}, []api.Link{link("02", "01.2", 5, 12), link("02", "01.10", 7, 12)}, api.OK},
	} {
		if got, e := Reverse(x.links, x.amounts); e != x.e || !sameLinks(got, x.want) {
			t.Error(i, got, e)
		}
		checkReverse(t, x.links, x.amounts)
	}
}

func TestAmountsThatReverseRefuses(t *testing.T) {
	negative := api.Ratio{Neg: true, Num: api.Nat{1}}
	for i, amounts := range [][]api.Amount{
		nil, {amount("01", 8, 1)}, {amount("02", 8, 1)}, {amount("01", 8, 1), amount("03", 1, 1)}, {amount("01", 1, 1), amount("01.1", 1, 1)}, {amount("01", 1, 1), amount("02", 1, 1), amount("03", 1, 1)}, {amount("01", 1, 1), amount("01.1", 1, 1), amount("02", 1, 1)},
		{amount("02", 1, 1), amount("01", 1, 1)}, {amount("01", 1, 1), amount("02", 1, 1), amount("02", 1, 1)}, {amount("01", 1, 1), amount("01", 1, 1)}, {amount("", 1, 1), amount("01", 1, 1), amount("02", 1, 1)}, {amount("01", 1, 1), amount("2", 1, 1)},
		{{Code: "01", Value: negative}, amount("02", 1, 1)}, {amount("01", 1, 1), {Code: "02", Value: negative}}, {amount("01", 100, 1), amount("02", -1, 1<<40)},
		// Before the converted amount that is 0.
		{amount("01", 0, 1), amount("02", -1, 1)}, {amount("01", 0, 1)}, {amount("01", 8, 1), amount("02", -6, 1)},
	} {
		if got, e := Reverse(split(), amounts); e != api.ErrConcordanceAmounts || len(got) != 0 {
			t.Error(i, got, e)
		}
	}
	// A 0 with a sign is not negative.
	if got, e := Reverse(split(), []api.Amount{amount("01", 8, 1), {Code: "02", Value: api.Ratio{Neg: true, Num: api.Nat{0}}}}); e != api.OK || len(got) != 2 {
		t.Error(got, e)
	}
}

func TestReverseScatteredAmounts(t *testing.T) {
	random := rand.New(rand.NewPCG(10, 7))
	next := scatteredLinks(11)
	for range 300 {
		links := next()
		amounts := valued(random, sources(links), 1)
		checkReverse(t, links, amounts)
		amounts[random.IntN(len(amounts))].Value = api.Ratio{}
		checkReverse(t, links, amounts)
	}
}

// total returns the sum of the amounts.
func total(amounts []api.Amount) api.Ratio {
	sum := api.Ratio{}
	for _, a := range amounts {
		sum = rational.Add(sum, a.Value)
	}
	return sum
}

func TestConvertKeepsTheSum(t *testing.T) {
	random := rand.New(rand.NewPCG(12, 7))
	next := scatteredLinks(13)
	for range 300 {
		links := next()
		amounts := valued(random, sources(links), -20)
		if got, e := Convert(links, amounts); e != api.OK || !identical(total(got), total(amounts)) {
			t.Error(links, amounts, got, e)
		}
	}
}

func TestConvertThroughBoth(t *testing.T) {
	random := rand.New(rand.NewPCG(14, 7))
	next := scatteredLinks(15)
	for range 300 {
		first := next()
		second := linksBetween(random, targets(first), leafCodes)
		amounts := valued(random, scattered(random, sources(first), 4), -20)
		both, e := Compose(first, second)
		got, e2 := Convert(both, amounts)
		middle, e3 := Convert(first, amounts)
		want, e4 := Convert(second, middle)
		if !sameAmounts(got, want) || max(e, e2, e3, e4) != api.OK {
			t.Error(first, second, amounts, got, want)
		}
	}
}

func TestConvertBack(t *testing.T) {
	random := rand.New(rand.NewPCG(16, 7))
	next := scatteredLinks(17)
	found := 0
	for range 300 {
		links := next()
		amounts := valued(random, sources(links), 1)
		amounts[random.IntN(len(amounts))].Value = api.Ratio{}
		back, e := Reverse(links, amounts)
		if e != api.OK {
			continue
		}
		found++
		converted, e2 := Convert(links, amounts)
		got, e3 := Convert(back, converted)
		amounts = slices.DeleteFunc(amounts, func(a api.Amount) bool { return len(a.Value.Num) == 0 })
		if !sameAmounts(got, amounts) || max(e2, e3) != api.OK {
			t.Error(links, amounts, got)
		}
	}
	if found < 50 {
		t.Error("the consequence was seen too rarely", found)
	}
}
