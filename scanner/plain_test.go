package scanner

import (
	"fmt"
	"math/big"
	"math/rand/v2"
	"regexp"
	"slices"
	"strings"

	"priceoffice/api"
	"priceoffice/rational"
)

const (
	cola  = "96385074"
	tea   = "4006381333931"
	water = "00000000"
	juice = "10000007"
)

func row(outlet, product string, period int, units, turnover int64) api.Row {
	return api.Row{Outlet: outlet, Product: product, Period: period, Units: units, Turnover: turnover}
}

var nameForm = regexp.MustCompile(`\A[a-z0-9][a-z0-9.-]{0,23}\z`)

// wantID is the definition of an ID.
func wantID(id string) bool {
	if strings.Trim(id, "0123456789") != "" || len(id) != 8 && len(id) != 13 {
		return false
	}
	sum := 0
	for i := range id {
		weight := 1
		if (len(id)-i)%2 == 0 {
			weight = 3
		}
		sum += weight * int(id[i]-'0')
	}
	return sum%10 == 0
}

func wantRow(r api.Row) bool {
	if !nameForm.MatchString(r.Outlet) || !wantID(r.Product) || r.Period < 0 || r.Period > 5999 {
		return false
	}
	return 0 < r.Units && r.Units <= 1<<40 && 0 < r.Turnover && r.Turnover <= 1<<40
}

// verdict describes the errors of lists independently of the package.
func verdict(rows []api.Row) api.Errno {
	for i, r := range rows {
		if len(rows) < 24001 && !wantRow(r) {
			return api.ErrScannerRow
		}
		if i == 24000 {
			return api.ErrScannerCount
		}
	}
	return api.OK
}

// place returns a text of fixed length for a valid row; bytewise, these texts are in the order of combined rows.
func place(r api.Row) string {
	return fmt.Sprintf("%-24s%-13s%5d", r.Outlet, r.Product, r.Period)
}

// wantCombine adds up neighbours of a sorted list.
func wantCombine(rows []api.Row) []api.Row {
	sorted := slices.Clone(rows)
	slices.SortStableFunc(sorted, func(a, b api.Row) int { return strings.Compare(place(a), place(b)) })
	var combined []api.Row
	for i, r := range sorted {
		if i == 0 || place(sorted[i-1]) != place(r) {
			combined = append(combined, r)
			continue
		}
		sum := &combined[len(combined)-1]
		sum.Units += r.Units
		sum.Turnover += r.Turnover
	}
	return combined
}

// wantTurnover returns the turnover of the rows of a valid list that are of a period and accepted.
func wantTurnover(rows []api.Row, period int, accepts func(r api.Row) bool) int64 {
	sum := int64(0)
	for _, r := range slices.Backward(rows) {
		if r.Period == period && accepts(r) {
			sum += r.Turnover
		}
	}
	return sum
}

func anyRow(api.Row) bool { return true }

// wantTop takes the best one of the products that are left until the share is reached.
func wantTop(rows []api.Row, period int, share *big.Rat) []string {
	total := wantTurnover(rows, period, anyRow)
	if total == 0 {
		return nil
	}
	if share.Cmp(big.NewRat(1, 1)) > 0 {
		share = big.NewRat(1, 1)
	}
	left := map[string]int64{}
	for _, r := range rows {
		if r.Period == period {
			left[r.Product] = wantTurnover(rows, period, func(other api.Row) bool { return other.Product == r.Product })
		}
	}
	var top []string
	for reached := int64(0); big.NewRat(reached, total).Cmp(share) < 0; {
		best := ""
		for id, turnover := range left {
			if best == "" || turnover > left[best] || turnover == left[best] && id < best {
				best = id
			}
		}
		top = append(top, best)
		reached += left[best]
		delete(left, best)
	}
	return top
}

func fraction(num, den int64) api.Ratio {
	x, _ := rational.Fraction(num, den)
	return x
}

// value returns x as a number of math/big, which the tests compare the package with.
func value(x api.Ratio) *big.Rat {
	integer := func(n api.Nat) *big.Int {
		z := new(big.Int)
		for _, limb := range slices.Backward(n) {
			z.Or(z.Lsh(z, 32), big.NewInt(int64(limb)))
		}
		return z
	}
	num, den := integer(x.Num), integer(x.Den)
	if den.Sign() == 0 {
		den.SetInt64(1)
	}
	if x.Neg {
		num.Neg(num)
	}
	return new(big.Rat).SetFrac(num, den)
}

// denotes reports whether x is the canonical form of a number.
func denotes(x api.Ratio, want *big.Rat) bool {
	normal := rational.Normalize(x)
	return x.Neg == normal.Neg && slices.Equal(x.Num, normal.Num) && slices.Equal(x.Den, normal.Den) && value(x).Cmp(want) == 0
}

// loose returns x in a form that is not canonical.
func loose(x api.Ratio) api.Ratio {
	if rational.Sign(x) == 0 {
		return api.Ratio{Neg: true, Num: api.Nat{0, 0}, Den: api.Nat{0}}
	}
	scaled := func(n api.Nat) api.Nat { return append(rational.Mul(api.Ratio{Num: n}, rational.FromInt(6)).Num, 0, 0) }
	den := x.Den
	if len(den) == 0 {
		den = api.Nat{1}
	}
	return api.Ratio{Neg: x.Neg, Num: scaled(x.Num), Den: scaled(den)}
}

// someShares returns numbers around and at the parts of a total, below 0 and above 1 among them, in several forms.
func someShares(total int64) []api.Ratio {
	list := []api.Ratio{{}, fraction(-1, 1), fraction(-1, 1000), fraction(1, 1<<62), fraction(1001, 1000), fraction(1, 1), fraction(2, 1), fraction(1<<62, 1)}
	for part := range min(total, 50) {
		x := fraction(part+1, total)
		list = append(list, x, rational.Sub(x, fraction(1, 1<<50)), rational.Add(x, fraction(1, 1<<50)))
	}
	for _, x := range list {
		list = append(list, loose(x))
	}
	return list
}

// some returns the beginning of a list, since a long one in a message helps nobody.
func some[T any](list []T) []T {
	return list[:min(len(list), 20)]
}

// randomRow returns a row of few outlets, products and periods.
func randomRow(random *rand.Rand) api.Row {
	outlets, products := []string{"o", "o", "n", "o-", "n.o"}, []string{cola, tea, water, juice}
	return row(outlets[random.IntN(5)], products[random.IntN(4)], 8+random.IntN(4), 1+random.Int64N(5), 1+random.Int64N(6))
}

func randomList(random *rand.Rand, most int) []api.Row {
	var list []api.Row
	for range random.IntN(most + 1) {
		list = append(list, randomRow(random))
	}
	return list
}
