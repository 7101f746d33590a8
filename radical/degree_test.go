package radical

import (
	"math"
	"slices"
	"testing"

	"priceoffice/api"
)

func isPrime(n int) bool {
	for d := 2; d < n; d++ {
		if n%d == 0 {
			return false
		}
	}
	return n > 1
}

func TestPrimeDivisors(t *testing.T) {
	for n := 1; n <= 2*api.MaxDegree; n++ {
		var want []int
		for d := 1; d <= n; d++ {
			if n%d == 0 && isPrime(d) {
				want = append(want, d)
			}
		}
		if got := primeDivisors(n); !slices.Equal(got, want) {
			t.Error(n, got, want)
		}
	}
	if got := primeDivisors[uint64](math.MaxUint64); !slices.Equal(got, []uint64{3, 5, 17, 257, 641, 65537, 6700417}) {
		t.Error(got)
	}
}

func TestCommonDegree(t *testing.T) {
	for a := 1; a <= 40; a++ {
		for b := 1; b <= 40; b++ {
			degree, left, right := commonDegree(a, b)
			if a*left != degree || b*right != degree || euclid(left, right) != 1 {
				t.Error(a, b, degree, left, right)
			}
		}
	}
}
