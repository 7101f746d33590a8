package radical

import (
	"slices"
	"testing"

	"priceoffice/api"
	"priceoffice/rational"
)

// values returns the numbers of the samples without their roots, and their product.
func values(list []number) ([]api.Ratio, number) {
	product := number{degree: 1}
	var result []api.Ratio
	for _, n := range list {
		n.degree = 1
		product = product.times(n, 1)
		result = append(result, loose(n.value()))
	}
	return result, product
}

func TestMean(t *testing.T) {
	list := samples()
	for first := range list {
		for last := first + 1; last <= len(list); last++ {
			numbers, product := values(list[first:last])
			product.degree = len(numbers)
			got, e := Mean(numbers)
			expect(t, got, e, product.least(), first, last)
			slices.Reverse(numbers)
			got, e = Mean(numbers)
			expect(t, got, e, product.least(), first, last, "from the last")
		}
	}
	for _, x := range []struct {
		list []api.Ratio
		want api.Radical
	}{
		{[]api.Ratio{whole(2), whole(8)}, root(4, 1, 1)}, {[]api.Ratio{whole(2), whole(3)}, root(6, 1, 2)}, {[]api.Ratio{fraction(5, 7)}, root(5, 7, 1)},
		{[]api.Ratio{whole(2), fraction(1, 2), whole(3)}, root(3, 1, 3)}, {[]api.Ratio{whole(2), whole(4), fraction(1, 8), whole(9)}, root(3, 1, 2)},
	} {
		got, e := Mean(x.list)
		expect(t, got, e, x.want, x.list)
	}
}

func TestMeanOfEqualNumbers(t *testing.T) {
	for _, n := range samples() {
		for _, count := range []int{1, 2, 3, 12, 60, 101, 128} {
			got, e := Mean(slices.Repeat([]api.Ratio{n.value()}, count))
			expect(t, got, e, api.Radical{Value: n.value(), Degree: 1}, n, count)
		}
	}
	got, e := Mean(slices.Repeat([]api.Ratio{fraction(3, 2)}, api.MaxFactors))
	expect(t, got, e, root(3, 2, 1))
}

// TestMeanLiesBetween checks the bounds of a mean, and that the mean of the reciprocals is the reciprocal of the mean.
func TestMeanLiesBetween(t *testing.T) {
	list := []api.Ratio{fraction(3, 7), fraction(5, 2), fraction(1, 1), fraction(12, 35), fraction(1000, 9), fraction(4, 9), fraction(4, 9)}
	for last := 1; last <= len(list); last++ {
		numbers := list[:last]
		mean, e := Mean(numbers)
		least := api.Radical{Value: slices.MinFunc(numbers, rational.Compare), Degree: 1}
		greatest := api.Radical{Value: slices.MaxFunc(numbers, rational.Compare), Degree: 1}
		low, f := Compare(least, mean)
		high, g := Compare(mean, greatest)
		if e != api.OK || f != api.OK || g != api.OK || low > 0 || high > 0 || last > 1 && (low == 0 || high == 0) {
			t.Error(numbers, mean, low, high)
		}
		var reciprocals []api.Ratio
		for _, x := range numbers {
			reciprocal, _ := rational.Power(x, -1)
			reciprocals = append(reciprocals, reciprocal)
		}
		inverse, e := Power(mean, -1)
		if e != api.OK {
			t.Error(numbers, e)
		}
		got, e := Mean(reciprocals)
		expect(t, got, e, inverse, numbers)
	}
}

func TestWeighted(t *testing.T) {
	list := samples()
	numbers, _ := values(list)
	for shift := range 11 {
		for _, degree := range []int{1, 2, 3, 5, 6, 60, 210, 1013, 1024} {
			product := number{degree: 1}
			var powers []int
			for i, n := range list {
				k := (i+shift)%11 - 5
				powers = append(powers, k)
				n.degree = 1
				product = product.times(n, k)
			}
			product.degree = degree
			got, e := Weighted(numbers, powers, degree)
			expect(t, got, e, product.least(), powers, degree)
		}
	}
	for _, x := range []struct {
		list   []api.Ratio
		powers []int
		degree int
		want   api.Radical
	}{
		{[]api.Ratio{whole(4), whole(9)}, []int{1, -1}, 2, root(2, 3, 1)}, {[]api.Ratio{whole(2), whole(3)}, []int{0, 0}, 5, root(1, 1, 1)},
		{[]api.Ratio{whole(2), whole(3), whole(5)}, []int{3, 1, -1}, 100, root(24, 5, 100)}, {[]api.Ratio{whole(2)}, []int{50}, 100, root(2, 1, 2)},
		{[]api.Ratio{fraction(1, 6), whole(6)}, []int{-2, 1}, 3, root(6, 1, 1)}, {[]api.Ratio{fraction(9, 4), whole(5)}, []int{-1, 0}, 4, root(2, 3, 2)},
	} {
		got, e := Weighted(x.list, x.powers, x.degree)
		expect(t, got, e, x.want, x.list, x.powers, x.degree)
	}
}
