package linear

import (
	"slices"

	"priceoffice/api"
	"priceoffice/rational"
)

// echelon is the reduced echelon form of a matrix. It has a place for each column: of an independent one the row that
// leads there, with 1 as its first element that is not 0 and with 0 where other rows lead; of others nil.
type echelon [][]api.Ratio

// eliminate returns the reduced echelon form of a.
func eliminate(a [][]api.Ratio) echelon {
	form := make(echelon, len(a[0]))
rows:
	for i := range len(a) {
		rest := withoutLeads(form, a[i])
		for column := range len(rest) {
			if rational.Sign(rest[column]) != 0 {
				lead(form, column, rest)
				continue rows
			}
		}
	}
	return form
}

// withoutLeads returns what is left of row where multiples of the rows of form are subtracted so that it is 0 where
// they lead.
func withoutLeads(form echelon, row []api.Ratio) []api.Ratio {
	rest := make([]api.Ratio, len(row))
	for column := range len(row) {
		if form[column] != nil {
			continue
		}
		value := row[column]
		// The rows that lead behind the column are 0 there.
		for before := range column {
			if form[before] != nil {
				value = lessMultiple(value, row[before], form[before][column])
			}
		}
		rest[column] = value
	}
	return rest
}

// lead adds a row to form, which is 0 where other rows lead and has its first element that is not 0 at column.
func lead(form echelon, column int, row []api.Ratio) {
	first := row[column]
	for k := range len(row) {
		row[k], _ = rational.Quo(row[k], first)
	}
	// The rows that lead behind the column are 0 there.
	for before := range column {
		if form[before] != nil {
			subtractMultiple(form[before], form[before][column], row)
		}
	}
	form[column] = row
}

// subtractMultiple subtracts factor times row from target.
func subtractMultiple(target []api.Ratio, factor api.Ratio, row []api.Ratio) {
	for k := range len(target) {
		target[k] = lessMultiple(target[k], factor, row[k])
	}
}

// lessMultiple returns value less factor times x.
func lessMultiple(value, factor, x api.Ratio) api.Ratio {
	if rational.Sign(factor) == 0 || rational.Sign(x) == 0 {
		return value
	}
	return rational.Sub(value, rational.Mul(factor, x))
}

// leads returns the columns at which the rows of form lead. These are the independent ones, since elimination leaves it
// as it is which multiples of columns add up to 0.
func leads(form echelon) []int {
	var columns []int
	for column := range len(form) {
		if form[column] != nil {
			columns = append(columns, column)
		}
	}
	return columns
}

// nullVectors returns for each column without a lead the vector that is 1 there, 0 at the other ones, and 0 times form.
func nullVectors(form echelon) [][]api.Ratio {
	var vectors [][]api.Ratio
	for column := range len(form) {
		if form[column] != nil {
			continue
		}
		vector := make([]api.Ratio, len(form))
		vector[column] = rational.FromInt(1)
		for before := range column {
			if form[before] != nil {
				vector[before] = rational.Negate(form[before][column])
			}
		}
		vectors = append(vectors, vector)
	}
	return vectors
}

// solution returns the x with a x = b for a with as many rows as columns, and false if there is not exactly one.
func solution(a [][]api.Ratio, b []api.Ratio) ([]api.Ratio, bool) {
	extended := make([][]api.Ratio, len(a))
	for i := range len(a) {
		extended[i] = append(slices.Clone(a[i]), b[i])
	}
	form := eliminate(extended)
	x := make([]api.Ratio, len(a))
	for column := range len(x) {
		if form[column] == nil {
			return nil, false
		}
		x[column] = form[column][len(x)]
	}
	return x, true
}
