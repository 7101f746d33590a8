package product

import (
	"fmt"
	"math/rand/v2"
	"regexp"
	"strconv"
	"strings"
	"testing"
)

var (
	digitsForm = regexp.MustCompile(`\A(?:[0-9]{7}|[0-9]{12})\z`)
	idForm     = regexp.MustCompile(`\A(?:[0-9]{8}|[0-9]{13})\z`)
)

// weighted returns the sum of the digits of a string, multiplied by 3, 1, 3, 1, .. from the last one to the first one.
func weighted(digits string) int {
	sum := 0
	for i := range digits {
		if (len(digits)-i)%2 == 1 {
			sum += 3 * int(digits[i]-'0')
		} else {
			sum += int(digits[i] - '0')
		}
	}
	return sum
}

// wantDigit tries all digits.
func wantDigit(s string) (int, bool) {
	if digitsForm.MatchString(s) {
		for d := range 10 {
			if (d+weighted(s))%10 == 0 {
				return d, true
			}
		}
	}
	return 0, false
}

// wantID says that the sum of all digits of an ID, multiplied by 1, 3, 1, 3, .. from the last one, is a multiple of 10.
func wantID(s string) bool {
	return idForm.MatchString(s) && weighted(s+"0")%10 == 0
}

// randomDigits returns n digits.
func randomDigits(random *rand.Rand, n int) string {
	text := make([]byte, n)
	for i := range text {
		text[i] = byte('0' + random.IntN(10))
	}
	return string(text)
}

// idOf returns the ID that begins with 7 or 12 digits.
func idOf(digits string) string {
	d, _ := wantDigit(digits)
	return digits + strconv.Itoa(d)
}

// someIDs returns IDs of both lengths.
func someIDs() []string {
	random := rand.New(rand.NewPCG(26, 9))
	list := []string{"4006381333931", "96385074", "00000000", "0000000000000", idOf("9999999"), idOf("999999999999"), idOf("1234567"), idOf("123456789012")}
	for range 60 {
		list = append(list, idOf(randomDigits(random, 7)), idOf(randomDigits(random, 12)))
	}
	return list
}

func checkText(t *testing.T, s string) {
	t.Helper()
	d, ok := wantDigit(s)
	if got, gotOK := CheckDigit(s); got != d || gotOK != ok {
		t.Errorf("CheckDigit %q: %v %v", s, got, gotOK)
	}
	if got := ValidID(s); got != wantID(s) {
		t.Errorf("ValidID %q: %v", s, got)
	}
}

func TestDigitsOfTheDocument(t *testing.T) {
	if d, ok := CheckDigit("400638133393"); d != 1 || !ok {
		t.Error(d, ok)
	}
	if d, ok := CheckDigit("9638507"); d != 4 || !ok {
		t.Error(d, ok)
	}
	if !ValidID("4006381333931") || !ValidID("96385074") {
		t.Error("the IDs of the document")
	}
}

func TestEveryDigitAtEveryPlace(t *testing.T) {
	for _, n := range []int{7, 12} {
		for place := range n {
			for d := range 10 {
				s := strings.Repeat("0", place) + strconv.Itoa(d) + strings.Repeat("0", n-1-place)
				checkText(t, s)
				for last := range 10 {
					checkText(t, s+strconv.Itoa(last))
				}
			}
		}
	}
}

func TestRandomDigits(t *testing.T) {
	random := rand.New(rand.NewPCG(1, 26))
	for range 3000 {
		for _, n := range []int{7, 8, 12, 13} {
			checkText(t, randomDigits(random, n))
		}
	}
}

func TestLengths(t *testing.T) {
	for n := range 40 {
		for d := range 10 {
			checkText(t, strings.Repeat(strconv.Itoa(d), n))
			checkText(t, strings.Repeat("0", n)+strconv.Itoa(d))
		}
	}
	checkText(t, strings.Repeat("0", 1<<20))
}

func TestEveryByteOfDigits(t *testing.T) {
	for _, s := range []string{"9638507", "96385074", "400638133393", "4006381333931", "00000000", "0000000000000"} {
		for i := range s {
			for b := range 256 {
				checkText(t, s[:i]+string([]byte{byte(b)})+s[i+1:])
				checkText(t, s[:i]+string([]byte{byte(b)})+s[i:])
			}
			checkText(t, s[:i]+s[i+1:])
			checkText(t, s[i:])
			checkText(t, s[:i])
		}
	}
	for _, s := range []string{"\uff11\uff12\uff13\uff14\uff15\uff16\uff17", "+638507", "-638507", " 638507", "9638507 ", "9638507\n", "96385074\n", "9638507\x00", "9_38507", "0x63850", "9638.07", "١٢٣٤"} {
		checkText(t, s)
	}
}

// TestChangedDigits has the consequence about changed and exchanged digits.
func TestChangedDigits(t *testing.T) {
	for _, id := range someIDs() {
		if !ValidID(id) {
			t.Error(id)
		}
		for i := range id {
			for d := range 10 {
				changed := id[:i] + strconv.Itoa(d) + id[i+1:]
				if got := ValidID(changed); got != (changed == id) {
					t.Error(id, changed, got)
				}
			}
		}
		for i := 1; i < len(id); i++ {
			exchanged := id[:i-1] + id[i:i+1] + id[i-1:i] + id[i+1:]
			difference := (10 + int(id[i]) - int(id[i-1])) % 10
			if got := ValidID(exchanged); got != (difference == 0 || difference == 5) {
				t.Error(id, exchanged, got)
			}
		}
	}
}

// TestOneDigitMakesAnID has exactly one ID for each beginning.
func TestOneDigitMakesAnID(t *testing.T) {
	for i := range 2000 {
		s := fmt.Sprintf("%07d", i*4999)
		var found []int
		for d := range 10 {
			if ValidID(s + strconv.Itoa(d)) {
				found = append(found, d)
			}
		}
		if d, ok := CheckDigit(s); !ok || len(found) != 1 || found[0] != d {
			t.Error(s, found, d, ok)
		}
	}
}
