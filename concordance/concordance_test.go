package concordance

import (
	"fmt"
	"math/big"
	"math/rand/v2"
	"regexp"
	"slices"
	"strings"
	"testing"

	"priceoffice/api"
	"priceoffice/rational"
)

func fraction(num, den int64) api.Ratio {
	x, _ := rational.Fraction(num, den)
	return x
}

func link(from, to string, num, den int64) api.Link {
	return api.Link{From: from, To: to, Share: fraction(num, den)}
}

func amount(code string, num, den int64) api.Amount {
	return api.Amount{Code: code, Value: fraction(num, den)}
}

func listed(codes ...string) api.Classification { return api.Classification{Codes: codes} }

// split is the concordance of the document's examples.
func split() []api.Link {
	return []api.Link{link("01", "01", 1, 4), link("01", "02", 3, 4), link("02", "02", 1, 1)}
}

// value returns x as package big has it.
func value(x api.Ratio) *big.Rat {
	integer := func(n api.Nat) *big.Int {
		out := new(big.Int)
		for _, limb := range slices.Backward(n) {
			out.Or(out.Lsh(out, 32), big.NewInt(int64(limb)))
		}
		return out
	}
	num, den := integer(x.Num), integer(x.Den)
	if den.Sign() == 0 {
		den.SetInt64(1)
	}
	out := new(big.Rat).SetFrac(num, den)
	if x.Neg {
		out.Neg(out)
	}
	return out
}

// ratio returns the canonical form of x.
func ratio(x *big.Rat) api.Ratio {
	limbs := func(n *big.Int) api.Nat {
		var out api.Nat
		for n = new(big.Int).Abs(n); n.Sign() > 0; n.Rsh(n, 32) {
			out = append(out, uint32(n.Uint64()))
		}
		return out
	}
	out := api.Ratio{Neg: x.Sign() < 0, Num: limbs(x.Num())}
	if !x.IsInt() {
		out.Den = limbs(x.Denom())
	}
	return out
}

// identical reports whether two numbers agree in all their parts.
func identical(x, y api.Ratio) bool {
	return x.Neg == y.Neg && slices.Equal(x.Num, y.Num) && slices.Equal(x.Den, y.Den)
}

func sameLinks(a, b []api.Link) bool {
	return slices.EqualFunc(a, b, func(x, y api.Link) bool {
		return x.From == y.From && x.To == y.To && identical(x.Share, y.Share)
	})
}

func sameAmounts(a, b []api.Amount) bool {
	return slices.EqualFunc(a, b, func(x, y api.Amount) bool { return x.Code == y.Code && identical(x.Value, y.Value) })
}

// loose returns x in a form that is not canonical: both parts times 2^32, with high zero limbs, and 0 with a sign.
func loose(x api.Ratio) api.Ratio {
	den := x.Den
	if len(den) == 0 {
		den = api.Nat{1}
	}
	times := func(n api.Nat) api.Nat { return append(append(api.Nat{0}, n...), 0, 0) }
	return api.Ratio{Neg: x.Neg || len(x.Num) == 0, Num: times(x.Num), Den: times(den)}
}

func looseLinks(links []api.Link) []api.Link {
	out := slices.Clone(links)
	for i := range out {
		out[i].Share = loose(out[i].Share)
	}
	return out
}

func looseAmounts(amounts []api.Amount) []api.Amount {
	out := slices.Clone(amounts)
	for i := range out {
		out[i].Value = loose(out[i].Value)
	}
	return out
}

var codeForm = regexp.MustCompile(`^(0[1-9]|[1-9][0-9])(\.[1-9][0-9]?){0,4}$`)

var shortPart = regexp.MustCompile(`\.([0-9])\b`)

// place returns a text that is compared bytewise as its code is compared part by part.
func place(code string) string { return shortPart.ReplaceAllString(code, ".0$1") }

// unsound is what the document says of the first five errors of Validate.
func unsound(links []api.Link) api.Errno {
	if len(links) == 0 || len(links) > 400 {
		return api.ErrConcordanceCount
	}
	sums := map[string]*big.Rat{}
	for i, x := range links {
		if !codeForm.MatchString(x.From) || !codeForm.MatchString(x.To) {
			return api.ErrConcordanceCode
		}
		if i > 0 && place(links[i-1].From)+" "+place(links[i-1].To) >= place(x.From)+" "+place(x.To) {
			return api.ErrConcordanceOrder
		}
		if value(x.Share).Sign() <= 0 {
			return api.ErrConcordanceShare
		}
		if sums[x.From] == nil {
			sums[x.From] = new(big.Rat)
		}
		sums[x.From].Add(sums[x.From], value(x.Share))
	}
	for _, sum := range sums {
		if sum.Cmp(big.NewRat(1, 1)) != 0 {
			return api.ErrConcordanceSum
		}
	}
	return api.OK
}

// between is what the document says of the errors of sound links between valid classifications.
func between(links []api.Link, from, to []string) api.Errno {
	leaf := func(list []string, code string) bool {
		below := func(c string) bool { return strings.HasPrefix(c, code+".") }
		return slices.Contains(list, code) && !slices.ContainsFunc(list, below)
	}
	for _, x := range links {
		if !leaf(from, x.From) || !leaf(to, x.To) {
			return api.ErrConcordanceLeaf
		}
	}
	for _, code := range from {
		linked := func(x api.Link) bool { return x.From == code }
		if leaf(from, code) && !slices.ContainsFunc(links, linked) {
			return api.ErrConcordanceMissing
		}
	}
	return api.OK
}

// closed returns the valid classification of these codes and of all their ancestors.
func closed(codes []string) []string {
	places := map[string]string{}
	for _, code := range codes {
		for end := range len(code) + 1 {
			if end == len(code) || code[end] == '.' {
				places[place(code[:end])] = code[:end]
			}
		}
	}
	return inOrder(places)
}

// inOrder returns the values of a map in the order of its keys.
func inOrder[V any](values map[string]V) []V {
	var keys []string
	for key := range values {
		keys = append(keys, key)
	}
	slices.Sort(keys)
	var out []V
	for _, key := range keys {
		out = append(out, values[key])
	}
	return out
}

// ends returns the codes at one end of the links, each once, in order.
func ends(links []api.Link, end func(api.Link) string) []string {
	places := map[string]string{}
	for _, x := range links {
		places[place(end(x))] = end(x)
	}
	return inOrder(places)
}

func sources(links []api.Link) []string {
	return ends(links, func(x api.Link) string { return x.From })
}

func targets(links []api.Link) []string { return ends(links, func(x api.Link) string { return x.To }) }

// leafCodes are codes of all levels, none below another one; some are beginnings of others as strings only.
var leafCodes = []string{"01.1", "01.2.1", "01.2.3", "01.2.10", "01.10.1.1", "01.10.1.2", "01.11", "02", "09.9.9.9.9", "09.9.9.9.10", "10.1", "10.10", "12", "99.99.99.99.99"}

// scattered returns some of the codes.
func scattered(random *rand.Rand, codes []string, size int) []string {
	var chosen []string
	for _, i := range random.Perm(len(codes))[:min(size, len(codes))] {
		chosen = append(chosen, codes[i])
	}
	slices.SortFunc(chosen, func(a, b string) int { return strings.Compare(place(a), place(b)) })
	return chosen
}

// linksBetween returns sound links from all codes of one list to some of another one.
func linksBetween(random *rand.Rand, from, to []string) []api.Link {
	var links []api.Link
	for _, code := range from {
		chosen := scattered(random, to, 1+random.IntN(4))
		parts, sum := make([]int64, len(chosen)), int64(0)
		for i := range parts {
			parts[i] = 1 + random.Int64N(12)
			sum += parts[i]
		}
		for i, other := range chosen {
			links = append(links, link(code, other, parts[i], sum))
		}
	}
	return links
}

// scatteredLinks returns a source of sound links, the same ones in each run.
func scatteredLinks(seed uint64) func() []api.Link {
	random := rand.New(rand.NewPCG(seed, 7))
	return func() []api.Link {
		from := scattered(random, leafCodes, 1+random.IntN(6))
		return linksBetween(random, from, scattered(random, leafCodes, 1+random.IntN(6)))
	}
}

// nth returns one code after the other: from 01.1 on for the first part 1, from 02.1 on for the first part 2.
func nth(first, i int) string { return fmt.Sprintf("%02d.%d", first+i/99, 1+i%99) }

// fan returns sound links, if width divides size, width of them from each code; all codes have the same targets.
func fan(size, width int) []api.Link {
	var links []api.Link
	for i := range size {
		links = append(links, link(nth(1, i/width), nth(2, i%width), 1, int64(width)))
	}
	return links
}

func TestExamplesOfValidate(t *testing.T) {
	two := listed("01", "02")
	wide := fan(400, 40)
	for i, x := range []struct {
		links    []api.Link
		from, to api.Classification
		e        api.Errno
	}{
		{split(), two, two, api.OK}, {looseLinks(split()), two, two, api.OK}, {split(), two, listed("01", "02", "03"), api.OK},
		{split(), api.Classification{Name: "x\x00", Codes: two.Codes}, api.Classification{Name: "no name", Codes: two.Codes}, api.OK},
		// The order is that of codes, not that of strings.
		{[]api.Link{link("01.2", "02.9", 1, 3), link("01.2", "02.10", 2, 3), link("01.10", "02.9", 1, 1)}, listed("01", "01.2", "01.10"), listed("02", "02.9", "02.10"), api.OK},
		{wide, listed(closed(sources(wide))...), listed(closed(targets(wide))...), api.OK},
		// Each condition of the classifications, in its order.
		{split(), listed(), listed(), api.ErrClassificationCount}, {split(), listed("02", "01"), listed("x"), api.ErrClassificationOrder}, {split(), listed("01.1"), listed("02", "01"), api.ErrClassificationParent},
		{split(), two, listed("x"), api.ErrClassificationCode}, {split(), listed("01"), listed("02", "01"), api.ErrClassificationOrder}, {split(), two, listed(), api.ErrClassificationCount}, {split(), listed(make([]string, 201)...), two, api.ErrClassificationCount},
		{split(), listed("01"), two, api.ErrConcordanceLeaf}, {split(), two, listed("01"), api.ErrConcordanceLeaf}, {split(), listed("01", "02", "02.1"), two, api.ErrConcordanceLeaf}, {split(), two, listed("01", "01.1", "02"), api.ErrConcordanceLeaf},
		{split(), listed("01", "03"), two, api.ErrConcordanceLeaf}, {split(), listed("01", "02", "03"), listed("01", "03"), api.ErrConcordanceLeaf}, {split(), listed("01", "02", "03"), two, api.ErrConcordanceMissing},
		{split()[2:], two, two, api.ErrConcordanceMissing}, {split()[2:], listed("02", "03", "03.1"), two, api.ErrConcordanceMissing}, {split()[2:], listed("02", "03", "03.1"), listed("01"), api.ErrConcordanceLeaf},
		{wide, listed(closed(sources(wide))...), listed(closed(targets(wide))[:40]...), api.ErrConcordanceLeaf}, {wide, listed(append(closed(sources(wide)), "99")...), listed(closed(targets(wide))...), api.ErrConcordanceMissing},
	} {
		if e := Validate(x.links, x.from, x.to); e != x.e {
			t.Error(i, e, x.e)
		}
	}
}

func TestUnsoundLinks(t *testing.T) {
	one, low := fraction(1, 1), api.Ratio{Neg: true, Num: api.Nat{1}}
	for i, x := range []struct {
		links []api.Link
		e     api.Errno
	}{
		{nil, api.ErrConcordanceCount}, {[]api.Link{}, api.ErrConcordanceCount}, {fan(401, 40), api.ErrConcordanceCount}, {make([]api.Link, 401), api.ErrConcordanceCount}, {slices.Repeat(split(), 1<<18), api.ErrConcordanceCount},
		{fan(400, 40), api.OK}, {fan(399, 40), api.ErrConcordanceSum}, {fan(400, 39), api.ErrConcordanceSum}, {fan(400, 5), api.OK},
		{make([]api.Link, 1), api.ErrConcordanceCode}, {make([]api.Link, 400), api.ErrConcordanceCode},
		{[]api.Link{link("", "01", 1, 1)}, api.ErrConcordanceCode}, {[]api.Link{link("01", "", 1, 1)}, api.ErrConcordanceCode}, {[]api.Link{link("1", "01", 1, 1)}, api.ErrConcordanceCode}, {[]api.Link{link("01", "01.01", 1, 1)}, api.ErrConcordanceCode},
		{[]api.Link{link("01", "01", 1, 2), link("01", "01", 1, 2)}, api.ErrConcordanceOrder}, {[]api.Link{link("01", "02", 1, 2), link("01", "01", 1, 2)}, api.ErrConcordanceOrder},
		{[]api.Link{link("02", "01", 1, 1), link("01", "02", 1, 1)}, api.ErrConcordanceOrder}, {[]api.Link{link("01.10", "01", 1, 1), link("01.2", "02", 1, 1)}, api.ErrConcordanceOrder}, {[]api.Link{link("01", "01.10", 1, 2), link("01", "01.2", 1, 2)}, api.ErrConcordanceOrder},
		{[]api.Link{link("01.1", "01", 1, 1), link("01", "02", 1, 1)}, api.ErrConcordanceOrder}, {[]api.Link{link("01", "01.1", 1, 2), link("01", "01", 1, 2)}, api.ErrConcordanceOrder},
		{[]api.Link{{From: "01", To: "01"}}, api.ErrConcordanceShare}, {[]api.Link{{From: "01", To: "01", Share: low}}, api.ErrConcordanceShare}, {[]api.Link{{From: "01", To: "01", Share: api.Ratio{Num: api.Nat{0, 0}, Den: api.Nat{3}}}}, api.ErrConcordanceShare},
		{[]api.Link{{From: "01", To: "01", Share: one}, {From: "01", To: "02"}}, api.ErrConcordanceShare}, {[]api.Link{link("01", "01", 2, 1), link("01", "02", -1, 1)}, api.ErrConcordanceShare},
		{[]api.Link{link("01", "01", 1, 2)}, api.ErrConcordanceSum}, {[]api.Link{link("01", "01", 2, 1)}, api.ErrConcordanceSum}, {[]api.Link{link("01", "01", 1, 4), link("01", "02", 1, 2)}, api.ErrConcordanceSum},
		{[]api.Link{link("01", "01", 1, 1), link("02", "01", 1<<40-1, 1<<40)}, api.ErrConcordanceSum}, {[]api.Link{link("01", "01", 1, 2), link("02", "01", 3, 2)}, api.ErrConcordanceSum}, {[]api.Link{link("01", "01", 1, 2), link("02", "01", 1, 2)}, api.ErrConcordanceSum},
		// A link with several errors, and errors of several links.
		{[]api.Link{{From: "x", To: "01"}}, api.ErrConcordanceCode}, {[]api.Link{link("02", "01", 1, 1), {From: "01", To: "x"}}, api.ErrConcordanceCode}, {[]api.Link{link("02", "01", 1, 1), {From: "01", To: "01"}}, api.ErrConcordanceOrder},
		{[]api.Link{{From: "02", To: "01"}, link("01", "01", 1, 1)}, api.ErrConcordanceShare}, {[]api.Link{link("02", "01", 1, 1), link("01", "01", 1, 1), link("x", "01", 1, 1)}, api.ErrConcordanceOrder}, {[]api.Link{{From: "01", To: "01", Share: low}, link("x", "01", 1, 1)}, api.ErrConcordanceShare},
		{[]api.Link{link("01", "01", 2, 1), link("02", "x", 1, 1)}, api.ErrConcordanceCode}, {[]api.Link{link("01", "01", 2, 1), link("01", "01", 1, 1)}, api.ErrConcordanceOrder}, {[]api.Link{link("01", "01", 2, 1), {From: "02", To: "01"}}, api.ErrConcordanceShare},
	} {
		checkSoundness(t, x.links, i)
		if unsound(x.links) != x.e {
			t.Error(i, unsound(x.links), x.e)
		}
	}
}

// checkSoundness compares the error of each function for these links with the document; other arguments are wrong, too.
func checkSoundness(t *testing.T, links []api.Link, name any) {
	t.Helper()
	want := unsound(links)
	if want == api.OK {
		if e := Validate(links, listed(closed(sources(links))...), listed(closed(targets(links))...)); e != between(links, closed(sources(links)), closed(targets(links))) {
			t.Error(name, "Validate", e)
		}
		return
	}
	if e := Validate(links, listed(), listed("x")); e != want {
		t.Error(name, "Validate", e, want)
	}
	wrong := []api.Amount{amount("x", -1, 1), amount("01", 1, 1)}
	for _, amounts := range [][]api.Amount{nil, wrong} {
		if got, e := Convert(links, amounts); e != want || len(got) != 0 {
			t.Error(name, "Convert", got, e, want)
		}
		if got, e := Reverse(links, amounts); e != want || len(got) != 0 {
			t.Error(name, "Reverse", got, e, want)
		}
	}
	for _, other := range [][]api.Link{nil, split(), split()[:1], links} {
		if got, e := Compose(links, other); e != want || len(got) != 0 {
			t.Error(name, "Compose", got, e, want)
		}
	}
	if got, e := Compose(split(), links); e != want || len(got) != 0 {
		t.Error(name, "Compose with a second list", got, e, want)
	}
}

// changed returns lists that are like a sound one, with one or two changes.
func changed(links []api.Link) [][]api.Link {
	var all [][]api.Link
	with := func(i int, change func(x *api.Link)) {
		other := slices.Clone(links)
		change(&other[i])
		all = append(all, other)
	}
	for i := range links {
		all = append(all, slices.Delete(slices.Clone(links), i, i+1))
		for k := range i {
			swapped := slices.Clone(links)
			swapped[i], swapped[k] = swapped[k], swapped[i]
			all = append(all, swapped, slices.Insert(slices.Clone(links), i, links[k]), slices.Insert(slices.Clone(links), k, links[i]))
			with(i, func(x *api.Link) { x.From = links[k].From })
			with(i, func(x *api.Link) { x.To = links[k].To })
			with(i, func(x *api.Link) { x.Share = links[k].Share })
		}
		for _, code := range []string{"", "1", "01", "01.1", "01.1.1", "03", "99", "x"} {
			with(i, func(x *api.Link) { x.From = code })
			with(i, func(x *api.Link) { x.To = code })
		}
		with(i, func(x *api.Link) { x.Share = rational.Negate(x.Share) })
		with(i, func(x *api.Link) { x.Share = api.Ratio{} })
		with(i, func(x *api.Link) { x.Share.Num = append(slices.Clone(x.Share.Num), 0, 1) })
	}
	return all
}

func TestChangedLinks(t *testing.T) {
	seen := map[api.Errno]int{}
	next := scatteredLinks(1)
	for range 20 {
		for _, links := range changed(next()) {
			checkSoundness(t, links, links)
			seen[unsound(links)]++
		}
	}
	for e := api.ErrConcordanceCode; e <= api.ErrConcordanceSum; e++ {
		if seen[e] < 10 || seen[api.OK] < 10 {
			t.Error(e, "is rare", seen)
		}
	}
}

func TestLinksBetweenClassifications(t *testing.T) {
	seen := map[api.Errno]int{}
	random := rand.New(rand.NewPCG(2, 7))
	next := scatteredLinks(3)
	check := func(links []api.Link, from, to []string) {
		if e := Validate(links, listed(from...), listed(to...)); e != between(links, from, to) {
			t.Error(links, from, to, e, between(links, from, to))
		}
		seen[between(links, from, to)]++
	}
	for range 300 {
		links := next()
		from, to := sources(links), targets(links)
		check(links, closed(from), closed(to))
		other := closed(scattered(random, slices.Concat(leafCodes, []string{"01.1.1", "02.1", "10.10.10", "11"}), 10))
		check(links, other, closed(to))
		check(links, closed(from), other)
		for _, more := range []string{"01.1.1", "02.1", "02.2.1", "10.10.10", "11"} {
			check(links, closed(append(slices.Clone(from), more)), closed(to))
			check(links, closed(from), closed(append(slices.Clone(to), more)))
		}
	}
	for _, e := range []api.Errno{api.OK, api.ErrConcordanceLeaf, api.ErrConcordanceMissing} {
		if seen[e] < 100 {
			t.Error(e, "is rare", seen)
		}
	}
}
