package name

import (
	"regexp"
	"strings"
	"testing"
)

var form = regexp.MustCompile(`\A[a-z0-9][a-z0-9.-]{0,23}\z`)

func check(t *testing.T, s string) {
	t.Helper()
	if got := Valid(s); got != form.MatchString(s) {
		t.Errorf("%q: %v", s, got)
	}
}

func TestShortStrings(t *testing.T) {
	check(t, "")
	for a := range 256 {
		check(t, string([]byte{byte(a)}))
		for b := range 256 {
			check(t, string([]byte{byte(a), byte(b)}))
			check(t, string([]byte{'a', byte(a), byte(b)}))
		}
	}
}

func TestLengths(t *testing.T) {
	for n := range 30 {
		for _, s := range []string{"a", "z", "0", "9", "-", ".", "A", "\u00e4", " "} {
			check(t, strings.Repeat(s, n))
			check(t, "a"+strings.Repeat(s, n))
			check(t, strings.Repeat("a", n)+s)
			check(t, s+strings.Repeat("0", n))
		}
	}
	check(t, strings.Repeat("a", 1<<20))
}

func TestSomeNames(t *testing.T) {
	for s, want := range map[string]bool{"acme": true, "a.-0": true, "0": true, strings.Repeat("z", 24): true, "": false, "-": false, ".a": false, "Acme": false, "a b": false, "a_b": false, "a\n": false, strings.Repeat("z", 25): false} {
		if got := Valid(s); got != want {
			t.Errorf("%q: %v", s, got)
		}
	}
}
