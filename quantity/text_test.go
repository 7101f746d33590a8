package quantity

import (
	"math/big"
	"math/rand/v2"
	"regexp"
	"strconv"
	"strings"
	"testing"

	"priceoffice/api"
)

// meaning is the dimension and the size of a unit.
type meaning struct {
	dimension int
	size      int64
}

func meanings() map[string]meaning {
	return map[string]meaning{
		"mg": {1, 1}, "g": {1, 1000}, "kg": {1, 1000000}, "ml": {2, 1}, "cl": {2, 10}, "l": {2, 1000},
		"mm": {3, 1}, "cm": {3, 10}, "m": {3, 1000}, "pc": {4, 1},
	}
}

// unitName returns the unit that the document gives to an amount.
func unitName(dimension int, amount int64) string {
	switch {
	case dimension == api.Pieces:
		return "pc"
	case dimension == api.Mass && amount >= 1000000:
		return "kg"
	case dimension == api.Mass && amount >= 1000:
		return "g"
	case dimension == api.Mass:
		return "mg"
	}
	names := []string{"l", "cl", "ml"}
	if dimension == api.Length {
		names = []string{"m", "cm", "mm"}
	}
	switch {
	case amount >= 1000:
		return names[0]
	case amount%10 == 0:
		return names[1]
	}
	return names[2]
}

var (
	acceptedForm = regexp.MustCompile(`^(?:([1-9][0-9]{0,2}) x )?((?:0|[1-9][0-9]{0,29})(?:\.[0-9]{1,12})?) (mg|g|kg|ml|cl|l|mm|cm|m|pc)$`)
	returnedForm = regexp.MustCompile(`^(?:([2-9]|[1-9][0-9]|100) x )?((?:0|[1-9][0-9]*)(?:\.[0-9]*[1-9])?) ([a-z]+)$`)
)

// described says what a string denotes, independently of the package.
func described(s string) (api.Quantity, bool) {
	parts := acceptedForm.FindStringSubmatch(s)
	if parts == nil {
		return api.Quantity{}, false
	}
	count := 1
	if parts[1] != "" {
		count, _ = strconv.Atoi(parts[1])
		if count == 1 {
			return api.Quantity{}, false
		}
	}
	u := meanings()[parts[3]]
	amount, _ := new(big.Rat).SetString(parts[2])
	amount.Mul(amount, big.NewRat(u.size, 1))
	if !amount.IsInt() || !amount.Num().IsInt64() {
		return api.Quantity{}, false
	}
	q := of(u.dimension, count, amount.Num().Int64())
	if verdict(q) != api.OK {
		return api.Quantity{}, false
	}
	return q, true
}

// checkParse compares Parse with the description.
func checkParse(t *testing.T, s string) {
	t.Helper()
	want, ok := described(s)
	e := api.OK
	if !ok {
		e = api.ErrQuantityForm
	}
	if got, gotE := Parse(s); got != want || gotE != e {
		t.Errorf("%q %v %v, want %v %v", s, got, gotE, want, e)
	}
}

func TestTextsOfTheDocument(t *testing.T) {
	for _, x := range []struct {
		q api.Quantity
		s string
	}{
		{of(api.Mass, 1, 500000), "500 g"}, {of(api.Volume, 6, 330), "6 x 33 cl"}, {of(api.Mass, 1, 1500000), "1.5 kg"}, {of(api.Volume, 1, 5), "5 ml"}, {of(api.Mass, 1, 1500), "1.5 g"}, {of(api.Pieces, 12, 1), "12 x 1 pc"},
		{of(api.Mass, 1, 1), "1 mg"}, {of(api.Mass, 1, 10), "10 mg"}, {of(api.Mass, 1, 999), "999 mg"}, {of(api.Mass, 1, 1000), "1 g"}, {of(api.Mass, 1, 1001), "1.001 g"}, {of(api.Mass, 1, 999999), "999.999 g"}, {of(api.Mass, 1, 1000000), "1 kg"}, {of(api.Mass, 1, 1000001), "1.000001 kg"}, {of(api.Mass, 1, 10000000), "10 kg"}, {of(api.Mass, 1, most), "1099511.627776 kg"}, {of(api.Mass, 100, 10), "100 x 10 mg"},
		{of(api.Volume, 1, 9), "9 ml"}, {of(api.Volume, 1, 10), "1 cl"}, {of(api.Volume, 1, 11), "11 ml"}, {of(api.Volume, 1, 100), "10 cl"}, {of(api.Volume, 1, 990), "99 cl"}, {of(api.Volume, 1, 999), "999 ml"}, {of(api.Volume, 1, 1000), "1 l"}, {of(api.Volume, 1, 1010), "1.01 l"}, {of(api.Volume, 1, 1001), "1.001 l"}, {of(api.Volume, 2, 100000), "2 x 100 l"}, {of(api.Volume, 1, most), "1099511627.776 l"},
		{of(api.Length, 1, 1), "1 mm"}, {of(api.Length, 99, 995), "99 x 995 mm"}, {of(api.Length, 1, 10), "1 cm"}, {of(api.Length, 3, 250), "3 x 25 cm"}, {of(api.Length, 1, 1000), "1 m"}, {of(api.Length, 1, 2500), "2.5 m"},
		{of(api.Pieces, 1, 1), "1 pc"}, {of(api.Pieces, 1, 10), "10 pc"}, {of(api.Pieces, 2, 1000), "2 x 1000 pc"}, {of(api.Pieces, 1, 1000000), "1000000 pc"}, {of(api.Pieces, 1, most), "1099511627776 pc"},
	} {
		if got, e := Format(x.q); e != api.OK || got != x.s {
			t.Error(x, got, e)
		}
		if got, e := Parse(x.s); e != api.OK || got != x.q {
			t.Error(x, got, e)
		}
	}
}

// TestFormatSamples takes the text apart, and has Parse(Format(q)) is q.
func TestFormatSamples(t *testing.T) {
	for dimension := api.Mass; dimension <= api.Pieces; dimension++ {
		for _, q := range samples(dimension) {
			s, e := Format(q)
			parts := returnedForm.FindStringSubmatch(s)
			if e != api.OK || parts == nil {
				t.Errorf("%v %q %v", q, s, e)
				continue
			}
			count, name := "", unitName(dimension, q.Amount)
			if q.Count > 1 {
				count = strconv.Itoa(q.Count)
			}
			number, _ := new(big.Rat).SetString(parts[2])
			want := big.NewRat(q.Amount, meanings()[name].size)
			if parts[1] != count || number.Cmp(want) != 0 || parts[3] != name {
				t.Errorf("%v %q", q, s)
			}
			if back, e := Parse(s); e != api.OK || back != q {
				t.Errorf("%v %q %v %v", q, s, back, e)
			}
		}
	}
}

func TestFormatAtTheEdges(t *testing.T) {
	for _, q := range edges() {
		s, e := Format(q)
		if e != verdict(q) || (s == "") != (e != api.OK) {
			t.Errorf("%v %q %v", q, s, e)
		}
		if back, parsed := Parse(s); e == api.OK && (parsed != api.OK || back != q) {
			t.Errorf("%v %q %v %v", q, s, back, parsed)
		}
	}
}

// TestOtherTexts has accepted strings that Format does not return.
func TestOtherTexts(t *testing.T) {
	for _, x := range []struct {
		s string
		q api.Quantity
	}{
		{"6 x 330 ml", of(api.Volume, 6, 330)}, {"1000 g", of(api.Mass, 1, 1000000)}, {"1.50 kg", of(api.Mass, 1, 1500000)}, {"0.001 l", of(api.Volume, 1, 1)}, {"0.1 cl", of(api.Volume, 1, 1)}, {"0.000001 kg", of(api.Mass, 1, 1)}, {"0.001 g", of(api.Mass, 1, 1)}, {"0.000001000000 kg", of(api.Mass, 1, 1)},
		{"1.000000000000 mg", of(api.Mass, 1, 1)}, {"100 x 0.7 cm", of(api.Length, 100, 7)}, {"2 x 3.0 pc", of(api.Pieces, 2, 3)}, {"1099511.627776 kg", of(api.Mass, 1, most)}, {"1099511627.776 g", of(api.Mass, 1, most)}, {"1099511627776.0 mg", of(api.Mass, 1, most)}, {"2 x 549755813.888 l", of(api.Volume, 2, most/2)}, {"109951162777.6 cm", of(api.Length, 1, most)}, {"10 x 0.01 m", of(api.Length, 10, 10)},
	} {
		if got, e := Parse(x.s); e != api.OK || got != x.q {
			t.Error(x, got, e)
		}
		checkParse(t, x.s)
	}
}

func TestMalformedTexts(t *testing.T) {
	digits := strings.Repeat("9", 1<<20)
	for _, s := range []string{
		"", " ", "  ", "x", " x ", " x  x ", "g", " g", "1", "1 ", "1g", "1  g", " 1 g", "1 g ", "1 g g", "1 kg g", "1 G", "1 Kg", "1 KG", "1 t", "1 dl", "1 km", "1 pcs", "1 \u33a5", "1\u00a0g", "1\tg", "1 g\n", "1 g\x00", "g 1",
		"0.5 ml", "0.0005 g", "0.0000001 kg", "0.0001 m", "0.01 cl", "0.05 cm", "1.5 pc", "1.5 mg", "0.000000000001 kg", "1.000000000001 kg",
		"0 g", "0.0 g", "0.000 kg", "0 pc", "2 x 0 g", "-1 g", "-0 g", "-0.0 g", "-1.5 kg", "2 x -1 g", "+1 g", "01 g", "00.5 g", ".5 kg", "1. g", "1.g", "1,5 kg", "1.5.0 kg", "1e3 g", "0x1 g", "1_0 g", "1/2 kg", "\u0661 g", "1.0000000000000 g", strings.Repeat("1", 31) + " g",
		"1 x 1 l", "0 x 1 l", "-2 x 1 g", "+2 x 1 g", "02 x 1 g", "2.0 x 1 g", "101 x 1 g", "1000 x 1 g", "18446744073709551618 x 1 g", "4294967298 x 1 g", "340282366920938463463374607431768211458 x 1 g", " x 1 g", "x 1 g", "2 x", "2 x ", "2 x g", "2 x  1 g", "2  x 1 g", " 2 x 1 g", "2 x 2 x 1 g", "1 x 2 x 1 g", "2 x 1 x g", "2 x x g", "2x1 g", "2 x1 g", "2x 1 g", "2 X 1 g", "2 \u00d7 1 g", "2 * 1 g", "two x 1 g",
		"1099511627777 mg", "1099511627.777 g", "1099511.627777 kg", "2 x 1099511627776 mg", "2 x 549755813889 mg", "100 x 10995116278 pc", "1099512 kg", "109951162777.7 cl", "9223372036854775808 mg", "9223372036854775809 mg", "18446744073709551616 mg", "18446744073709551617 mg", "36893488147419103233 mg", "18446744073709551617 kg", "99999999999999999999999 mg", "999999999999999999999999999999 kg",
		digits + " g", digits + " x 1 g", "2 x " + digits, "1 " + digits, strings.Repeat("2 x ", 1<<18) + "1 g", strings.Repeat(" ", 1<<20), "0." + digits + " g",
	} {
		if got, e := Parse(s); e != api.ErrQuantityForm || got != (api.Quantity{}) {
			t.Errorf("%.50q %v %v", s, got, e)
		}
		checkParse(t, s)
	}
}

// TestEveryChangeOfAText puts every byte in every place of some texts, and takes bytes away from them and adds them.
func TestEveryChangeOfAText(t *testing.T) {
	for _, text := range []string{"6 x 330 ml", "1.50 kg", "100 x 0.7 cm", "12 pc", "2 x 0.001 l", "20 x 1 g", "10 m"} {
		for place := range len(text) {
			checkParse(t, text[:place])
			checkParse(t, text[:place]+text[place+1:])
			for b := range 256 {
				put := string([]byte{byte(b)})
				checkParse(t, text[:place]+put+text[place+1:])
				checkParse(t, text[:place]+put+text[place:])
				checkParse(t, text+put)
			}
		}
	}
}

// TestTextsOfPieces puts pieces of texts together, valid ones or not.
func TestTextsOfPieces(t *testing.T) {
	random := rand.New(rand.NewPCG(8, 23))
	pick := func(list ...string) string { return list[random.IntN(len(list))] }
	for range 20000 {
		var s strings.Builder
		s.WriteString(pick("", "", "", "2", "12", "99", "100", "101", "1", "0", "02") + pick("", " x ", " x ", " x", "x "))
		s.WriteString(pick("0", "1", "7", "10", "33", "1000", "549755", "1099511", "10995116277", "1099511627776") + pick("", "", ".", ".0", ".5", ".25", ".001", ".627776", ".0000001", ".100000000000"))
		s.WriteString(pick(" ", " ", " ", "", "  ") + pick("mg", "g", "kg", "ml", "cl", "l", "mm", "cm", "m", "pc", "t", ""))
		checkParse(t, s.String())
	}
}
