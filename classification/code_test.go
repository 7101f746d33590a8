package classification

import (
	"math"
	"regexp"
	"slices"
	"strconv"
	"strings"
	"testing"

	"priceoffice/api"
)

var codeForm = regexp.MustCompile(`^(0[1-9]|[1-9][0-9])(\.[1-9][0-9]?){0,4}$`)

// noCodes are strings that are no codes, and not "" either.
var noCodes = []string{
	"0", "1", "9", "00", "000", "001", "010", "100", "999", "1.1", "0.1", "00.1", "001.1", "100.1",
	"01.0", "01.00", "01.01", "01.09", "01.010", "01.100", "01.001", "01.1.0", "01.1.01", "01.1.1.1.0", "01.1.1.1.100",
	".", "..", "....", "01.", ".01", "01..1", "01.1.", "01.1..", ".1", "..1", "01.1.1.1.", "01.1.1.1.1.", "01.1.1.1.1.1", "01.1.1.1.1.0", "99.99.99.99.99.99", "99.99.99.99.99.", "99.99.99.99.999", "99.99.99.99.100",
	"x", "0x", "x1", "0x1", "01.x", "01.1x", "x.1", "01.1.x", "1e1", "01.1e1", "0_1", "01.1_1", "ab.c",
	"-1", "+1", "-01", "+01", "01.-1", "01.+1", "-1.1", "+1.1", "01.+9", "01.1.-9",
	" ", "01 ", " 01", "01 .1", "01. 1", "01.1 ", "01.1\n", "\n01", "01\x00", "\x0001", "01,1", "01/1", "01-1", "01:1", "01\u2024" + "1",
	"\u0660\u0661", "01.\u0661", "\uff10\uff11", "\xff", "01.\xff", "18446744073709551617", "01.18446744073709551617", "01.4294967297", "-9223372036854775808",
}

// eachText calls visit with every string of at most size of the letters.
func eachText(letters string, size int, visit func(string)) {
	var extend func(string)
	extend = func(s string) {
		visit(s)
		for i := 0; i < len(letters) && len(s) < size; i++ {
			extend(s + letters[i:i+1])
		}
	}
	extend("")
}

// checkText compares the functions of one string with the form of a code.
func checkText(t *testing.T, s string) {
	t.Helper()
	if !codeForm.MatchString(s) {
		checkNoCode(t, s)
		return
	}
	texts := strings.Split(s, ".")
	parts, e := Parse(s)
	if e != api.OK || len(parts) != len(texts) || Level(s) != len(texts) {
		t.Errorf("%q %v %v %v", s, parts, e, Level(s))
		return
	}
	for i, text := range texts {
		if text != strconv.Itoa(parts[i]) && (i > 0 || text != "0"+strconv.Itoa(parts[i])) {
			t.Errorf("%q %v", s, parts)
		}
	}
	if again, e := Format(parts); e != api.OK || again != s {
		t.Errorf("%q %q %v", s, again, e)
	}
	if parent, ok := Parent(s); !ok || parent != strings.Join(texts[:len(texts)-1], ".") {
		t.Errorf("%q %q %v", s, parent, ok)
	}
	checkPath(t, s, texts)
}

func checkPath(t *testing.T, s string, texts []string) {
	t.Helper()
	var want []string
	for i := range texts {
		want = append(want, strings.Join(texts[:i+1], "."))
	}
	if got := Path(s); !slices.Equal(got, want) {
		t.Errorf("%q %q %q", s, got, want)
	}
}

// checkNoCode checks that s, which must be no code, has no parts, no parent and no path.
func checkNoCode(t *testing.T, s string) {
	t.Helper()
	level := -1
	if s == "" {
		level = 0
	}
	parts, e := Parse(s)
	if len(parts) != 0 || e != api.ErrClassificationCode || Level(s) != level {
		t.Errorf("%q %v %v %v", s, parts, e, Level(s))
	}
	if parent, ok := Parent(s); parent != "" || ok {
		t.Errorf("%q %q %v", s, parent, ok)
	}
	if path := Path(s); len(path) != 0 {
		t.Errorf("%q %q", s, path)
	}
}

func TestCodesOfTheDocument(t *testing.T) {
	if got, e := Parse("01.1.12"); e != api.OK || !slices.Equal(got, []int{1, 1, 12}) {
		t.Error(got, e)
	}
	for _, s := range []string{"1.1", "01.0", "01.01", ""} {
		checkNoCode(t, s)
	}
	if got, e := Format([]int{9, 10}); e != api.OK || got != "09.10" {
		t.Error(got, e)
	}
	if a, b, c := Level("01.1"), Level(""), Level("x"); a != 2 || b != 0 || c != -1 {
		t.Error(a, b, c)
	}
	for _, x := range []struct{ code, parent string }{{"01", ""}, {"99", ""}, {"01.10", "01"}, {"10.10.1", "10.10"}, {"01.1.2.3.99", "01.1.2.3"}} {
		if got, ok := Parent(x.code); got != x.parent || !ok {
			t.Error(x, got, ok)
		}
	}
	if got := Path("01.1.2"); !slices.Equal(got, []string{"01", "01.1", "01.1.2"}) {
		t.Error(got)
	}
	if got := Path("99.99.99.99.99"); !slices.Equal(got, []string{"99", "99.99", "99.99.99", "99.99.99.99", "99.99.99.99.99"}) {
		t.Error(got)
	}
}

func TestStringsThatAreNoCodes(t *testing.T) {
	for _, s := range noCodes {
		checkNoCode(t, s)
	}
	for _, s := range []string{"01", "1", ".1", ".", "0"} {
		checkNoCode(t, strings.Repeat(s, 1<<20))
	}
	checkNoCode(t, "01"+strings.Repeat(".1", 1<<20))
}

func TestEveryShortText(t *testing.T) {
	eachText("019.", 8, func(s string) { checkText(t, s) })
	eachText("1.-+ x", 6, func(s string) { checkText(t, s) })
	for a := range 256 {
		for b := range 256 {
			checkText(t, string([]byte{byte(a), byte(b)}))
			checkText(t, "01."+string([]byte{byte(a), byte(b)}))
		}
	}
}

// TestEveryChangeOfACode puts every byte in every place of a code, and takes bytes away from it and adds them.
func TestEveryChangeOfACode(t *testing.T) {
	for _, code := range []string{"09", "10.9", "01.10.2", "99.99.99.99.99", "01.1.1.1.1", "10.20.3.40"} {
		for place := range len(code) {
			checkText(t, code[:place]+code[place+1:])
			for b := range 256 {
				letter := string([]byte{byte(b)})
				checkText(t, code[:place]+letter+code[place+1:])
				checkText(t, code[:place]+letter+code[place:])
				checkText(t, code+letter)
			}
		}
	}
}

func TestPartsOfEverySize(t *testing.T) {
	for n := 1; n <= 99; n++ {
		last := strconv.Itoa(n)
		first := last
		if n < 10 {
			first = "0" + last
		}
		for _, x := range []struct {
			code  string
			parts []int
		}{
			{first, []int{n}},
			{"01." + last, []int{1, n}},
			{"10." + last + ".10", []int{10, n, 10}},
			{first + ".5.6." + last, []int{n, 5, 6, n}},
			{"99.1.2.3." + last, []int{99, 1, 2, 3, n}},
			{first + "." + last + "." + last + "." + last + "." + last, []int{n, n, n, n, n}},
		} {
			parts, e := Parse(x.code)
			code, f := Format(x.parts)
			if e != api.OK || f != api.OK || !slices.Equal(parts, x.parts) || code != x.code {
				t.Error(x, parts, e, code, f)
			}
		}
	}
}

func TestPartsOfNoCode(t *testing.T) {
	for _, parts := range [][]int{
		nil, {}, {1, 1, 1, 1, 1, 1}, {99, 99, 99, 99, 99, 99}, {0, 0, 0, 0, 0, 0}, make([]int, 1<<20),
	} {
		checkNoParts(t, parts)
	}
	for _, n := range []int{0, -1, -9, -10, 100, 101, 999, 1 << 32, 1<<32 + 1, math.MinInt, math.MinInt + 1, math.MaxInt} {
		for size := 1; size <= 5; size++ {
			for place := range size {
				parts := slices.Repeat([]int{5}, size)
				parts[place] = n
				checkNoParts(t, parts)
			}
		}
	}
}

func checkNoParts(t *testing.T, parts []int) {
	t.Helper()
	if got, e := Format(parts); got != "" || e != api.ErrClassificationParts {
		t.Error(len(parts), got, e)
	}
}

func TestPartsAreNewMemory(t *testing.T) {
	parts, _ := Parse("01.2.3")
	again, _ := Parse("01.2.3")
	parts[0], parts[2] = 7, 8
	if code, e := Format(parts); code != "07.2.8" || e != api.OK || !slices.Equal(parts, []int{7, 2, 8}) || !slices.Equal(again, []int{1, 2, 3}) {
		t.Error(code, e, parts, again)
	}
	memory := []int{1, 2, 3, 100, 0}
	if code, e := Format(memory[:3]); code != "01.2.3" || e != api.OK || !slices.Equal(memory, []int{1, 2, 3, 100, 0}) {
		t.Error(code, e, memory)
	}
	path := Path("01.2.3")
	path[0] = "x"
	if again := Path("01.2.3"); !slices.Equal(again, []string{"01", "01.2", "01.2.3"}) {
		t.Error(again)
	}
}
