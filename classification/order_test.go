package classification

import (
	"cmp"
	"slices"
	"strings"
	"testing"
)

// ascending lists strings of all kinds in their order.
var ascending = []string{
	"", "01", "01.1", "01.1.1", "01.1.1.1", "01.1.1.1.1", "01.1.1.1.2", "01.1.1.1.10", "01.1.1.2", "01.1.2", "01.1.9", "01.1.10", "01.1.10.1", "01.1.11", "01.1.99",
	"01.2", "01.2.1", "01.9", "01.9.99", "01.10", "01.10.1", "01.11", "01.20", "01.99", "01.99.99.99.99", "02", "02.1", "09", "09.99", "10", "10.1", "10.2", "10.10", "11", "20", "98.99", "99", "99.1", "99.9", "99.10", "99.99", "99.99.99.99.99",
	"\x00", " ", "+01", "-1", ".", "0", "00", "001", "01.", "01.0", "01.01", "01.1.1.1.1.1", "01.100", "1", "1.1", "1.10", "1.2", "10.0", "100", "99.99.99.99.99.99", "9999", "X", "x", "x.1", "x.10", "x.2", "xx", "\u00e9", "\xff", "\xff\xff",
}

// order is what the document says of Compare.
func order(a, b string) int {
	kind := func(s string) int {
		switch {
		case s == "":
			return 0
		case codeForm.MatchString(s):
			return 1
		}
		return 2
	}
	if kind(a) != kind(b) {
		return cmp.Compare(kind(a), kind(b))
	}
	if kind(a) != 1 {
		return strings.Compare(a, b)
	}
	x, y := strings.Split(a, "."), strings.Split(b, ".")
	for i := range min(len(x), len(y)) {
		// Codes have no other leading zeros, so a shorter part is a smaller number.
		if n := cmp.Or(cmp.Compare(len(x[i]), len(y[i])), strings.Compare(x[i], y[i])); n != 0 {
			return n
		}
	}
	return cmp.Compare(len(x), len(y))
}

// inside is what the document says of Within.
func inside(code, ancestor string) bool {
	if code != "" && !codeForm.MatchString(code) {
		return false
	}
	return ancestor == "" || code == ancestor || codeForm.MatchString(ancestor) && strings.HasPrefix(code, ancestor+".")
}

// commonCode finds the longest code that both are within among the parts of one of them.
func commonCode(a, b string) string {
	best := ""
	for place := range len(a) + 1 {
		if s := a[:place]; codeForm.MatchString(s) && inside(a, s) && inside(b, s) {
			best = s
		}
	}
	return best
}

// samples lists strings of all kinds, many of them alike.
func samples() []string {
	list := slices.Concat(ascending, noCodes)
	eachText("012.", 5, func(s string) {
		if codeForm.MatchString(s) || len(s) < 3 {
			list = append(list, s)
		}
	})
	return list
}

func TestOrderOfTheDocument(t *testing.T) {
	for _, x := range []struct {
		a, b string
		want int
	}{
		{"01.2", "01.10", -1}, {"01", "01.1", -1}, {"99", "x", -1}, {"", "01", -1}, {"", "\x00", -1}, {"", "", 0}, {"01.1", "01.1", 0}, {"x", "x", 0},
		{"01.99", "02", -1}, {"09", "10", -1}, {"99.99.99.99.99", "\x00", -1}, {"01.1", "1.1", -1}, {"01.10", "01.1.1", 1}, {"1.10", "1.2", -1}, {"01.01", "01.1", 1},
	} {
		if there, back := Compare(x.a, x.b), Compare(x.b, x.a); there != x.want || back != -x.want {
			t.Error(x, there, back)
		}
	}
}

func TestOrderOfAList(t *testing.T) {
	for i, a := range ascending {
		for k, b := range ascending {
			if got := Compare(a, b); got != cmp.Compare(i, k) {
				t.Errorf("%q %q %v", a, b, got)
			}
		}
	}
}

func TestPairsOfStrings(t *testing.T) {
	list := samples()
	for _, a := range list {
		for _, b := range list {
			if got := Compare(a, b); got != order(a, b) {
				t.Errorf("Compare %q %q %v", a, b, got)
			}
			if got := Within(a, b); got != inside(a, b) {
				t.Errorf("Within %q %q %v", a, b, got)
			}
			if got := Common(a, b); got != commonCode(a, b) {
				t.Errorf("Common %q %q %q", a, b, got)
			}
		}
	}
}

func TestWithinOfTheDocument(t *testing.T) {
	for _, x := range []struct {
		code, ancestor string
		want           bool
	}{
		{"01.10", "01.1", false}, {"01.1.2", "01.1", true}, {"", "", true}, {"01", "", true}, {"01.1.1.1.1", "", true}, {"01", "01", true}, {"01.1.2.3.4", "01", true},
		{"", "01", false}, {"01", "01.1", false}, {"01", "02", false}, {"01.1", "01.2", false}, {"02.1", "01", false}, {"10", "1", false}, {"01.1", "0", false}, {"01.1", "01.", false},
		{"x", "", false}, {"x", "x", false}, {"1", "", false}, {"01.", "01", false}, {"01.x", "01", false}, {"01.01", "01", false}, {"", "x", false}, {"01", "x", false}, {"01.1.1.1.1.1", "01.1.1.1.1", false},
	} {
		if got := Within(x.code, x.ancestor); got != x.want {
			t.Error(x, got)
		}
	}
}

func TestCommonOfTheDocument(t *testing.T) {
	for _, x := range []struct{ a, b, want string }{
		{"01.1.2", "01.1.3.4", "01.1"}, {"01", "02", ""}, {"01", "10", ""}, {"01.1", "01.10", "01"}, {"01.1", "02.1", ""}, {"01.1.1", "01.2.1", "01"}, {"01.1", "01.1", "01.1"},
		{"01", "01.1.1.1.1", "01"}, {"99.99.99.99.99", "99.99.99.99.99", "99.99.99.99.99"}, {"99.99.99.99.99", "99.99.99.99.9", "99.99.99.99"},
		{"", "", ""}, {"", "01", ""}, {"x", "x", ""}, {"01.1", "01.x", ""}, {"01.1", "01.01", ""}, {"01.1.1.1.1.1", "01.1.1.1.1", ""}, {"", "x", ""},
	} {
		if there, back := Common(x.a, x.b), Common(x.b, x.a); there != x.want || back != x.want {
			t.Error(x, there, back)
		}
	}
}

// codes lists "" and all codes with up to three parts, each from 1 to 3 or 10.
func codes() []string {
	list := []string{"", "01", "02", "03", "10"}
	for _, s := range list[1:] {
		for _, a := range []string{".1", ".2", ".3", ".10"} {
			list = append(list, s+a)
			for _, b := range []string{".1", ".2", ".3", ".10"} {
				list = append(list, s+a+b)
			}
		}
	}
	return list
}

// TestWithinIsAPartialOrder has also that two codes are within a third one just if what they have in common is within it.
func TestWithinIsAPartialOrder(t *testing.T) {
	list := codes()
	for _, a := range list {
		if !Within(a, a) || !Within(a, "") {
			t.Error(a)
		}
		for _, b := range list {
			common := Common(a, b)
			if !Within(a, common) || !Within(b, common) || a != b && Within(a, b) && Within(b, a) {
				t.Error(a, b, common)
			}
			for _, c := range list {
				if Within(a, b) && Within(b, c) && !Within(a, c) || (Within(a, c) && Within(b, c)) != Within(common, c) {
					t.Error(a, b, c, common)
				}
			}
		}
	}
}
