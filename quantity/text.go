package quantity

import (
	"strconv"
	"strings"

	"priceoffice/api"
	"priceoffice/natural"
	"priceoffice/rational"
)

// times stands between the number of packages and the content of each of them.
const times = " x "

// Parse reads a quantity such as "6 x 330 ml".
func Parse(s string) (api.Quantity, api.Errno) {
	count, content := 1, s
	if before, after, several := strings.Cut(s, times); several {
		count, content = packages(before), after
	}
	number, name, _ := strings.Cut(content, " ")
	u := unitNamed(name)
	q := api.Quantity{Dimension: u.dimension, Count: count, Amount: u.amount(number)}
	if Validate(q) != api.OK {
		return api.Quantity{}, api.ErrQuantityForm
	}
	return q, api.OK
}

// packages reads a number of packages, and returns 0 for what is none. One package has no number.
func packages(text string) int {
	n, _ := natural.Parse(text)
	count, _ := natural.Uint(n)
	if count < 2 || count > api.MaxCount {
		return 0
	}
	return int(count)
}

// Format returns the text of a quantity.
func Format(q api.Quantity) (string, api.Errno) {
	if e := Validate(q); e != api.OK {
		return "", e
	}
	u := unitFor(q.Dimension, q.Amount)
	text := shortest(q.Amount, u.size) + " " + u.name
	if q.Count > 1 {
		text = strconv.Itoa(q.Count) + times + text
	}
	return text, api.OK
}

// shortest returns num / den with the fewest decimals, where den is a power of ten up to 10^api.MaxDecimals.
func shortest(num, den int64) string {
	x, _ := rational.Fraction(num, den)
	text := rational.Format(x, api.MaxDecimals)
	return strings.TrimSuffix(strings.TrimRight(text, "0"), ".")
}
