package classification

import (
	"math/bits"
	"slices"
	"strings"
	"testing"

	"priceoffice/api"
)

func listed(codes ...string) api.Classification {
	return api.Classification{Name: "goods", Codes: codes}
}

// tree has leaves of every level, parts with one and two digits, and codes of which others are beginnings as strings only.
var tree = []string{"01", "01.1", "01.1.1", "01.1.10", "01.1.10.7", "01.1.10.7.99", "01.10", "01.11", "01.11.1", "02", "10", "10.1", "10.10"}

// numbered returns a valid list with so many codes, at most 198: those from 01 to 99, each followed by its child.
func numbered(size int) []string {
	var list []string
	for n := 1; len(list) < size; n++ {
		parent, _ := Format([]int{n})
		child, _ := Format([]int{n, n})
		list = append(list, parent, child)
	}
	return list[:size]
}

// family returns a valid list with so many codes, at most 496: 50 and its children, and below each of these two levels.
func family(size int) []string {
	list := []string{"50"}
	for n := 1; len(list) < size; n++ {
		for _, parts := range [][]int{{50, n}, {50, n, 2}, {50, n, 2, 10}, {50, n, 2, 11}, {50, n, 10}} {
			code, _ := Format(parts)
			list = append(list, code)
		}
	}
	return list[:size]
}

func validLists() [][]string {
	return [][]string{
		{"01"}, {"99"}, {"01", "01.1"}, {"01", "01.1", "01.2", "02"}, {"05", "05.99", "06", "06.1"}, {"01", "02", "09", "10", "99"},
		{"01", "01.1", "01.1.1", "01.1.1.1", "01.1.1.1.1"}, tree, numbered(51), numbered(198), family(73), family(199), family(200),
	}
}

func TestValidLists(t *testing.T) {
	for i, list := range validLists() {
		for _, name := range []string{"", "goods", "no name", "x\x00\xff", strings.Repeat("n", 1<<16)} {
			if e := Validate(api.Classification{Name: name, Codes: list}); e != api.OK {
				t.Error(i, name, e)
			}
		}
	}
}

func TestInvalidLists(t *testing.T) {
	for i, x := range []struct {
		codes []string
		e     api.Errno
	}{
		{nil, api.ErrClassificationCount}, {[]string{}, api.ErrClassificationCount}, {family(201), api.ErrClassificationCount},
		{make([]string, 201), api.ErrClassificationCount}, {slices.Repeat([]string{"02"}, 1<<20), api.ErrClassificationCount},
		{make([]string, 200), api.ErrClassificationCode}, {slices.Repeat([]string{"02"}, 200), api.ErrClassificationOrder}, {slices.Repeat([]string{"01.1"}, 200), api.ErrClassificationParent},
		{[]string{""}, api.ErrClassificationCode}, {[]string{"", "01"}, api.ErrClassificationCode}, {[]string{"01", ""}, api.ErrClassificationCode}, {[]string{"01", "01.01"}, api.ErrClassificationCode},
		{[]string{"01", "02", "02"}, api.ErrClassificationOrder}, {[]string{"02", "01"}, api.ErrClassificationOrder}, {[]string{"01.1", "01"}, api.ErrClassificationParent},
		{[]string{"01", "01.1", "01"}, api.ErrClassificationOrder}, {[]string{"01", "01.2", "01.1"}, api.ErrClassificationOrder}, {[]string{"01", "01.10", "01.2"}, api.ErrClassificationOrder},
		{[]string{"01", "01.1", "01.1.1", "01.1"}, api.ErrClassificationOrder}, {[]string{"01", "02", "01.1"}, api.ErrClassificationOrder}, {[]string{"10", "09"}, api.ErrClassificationOrder},
		{[]string{"01.1"}, api.ErrClassificationParent}, {[]string{"01", "02.1"}, api.ErrClassificationParent}, {[]string{"01", "01.1.1"}, api.ErrClassificationParent}, {[]string{"01", "01.1", "01.10.1"}, api.ErrClassificationParent},
		{[]string{"01", "01.1", "01.1.1", "01.1.1.1.1"}, api.ErrClassificationParent}, {[]string{"01", "01.1", "02", "02.1.1"}, api.ErrClassificationParent}, {[]string{"99.99.99.99.99"}, api.ErrClassificationParent},
		// A code with several errors, and errors of several codes.
		{[]string{"02", "01.1"}, api.ErrClassificationOrder}, {[]string{"02", "01."}, api.ErrClassificationCode}, {[]string{"01.1", "x"}, api.ErrClassificationParent}, {[]string{"x", "01.1"}, api.ErrClassificationCode},
		{[]string{"02", "01", "03.1"}, api.ErrClassificationOrder}, {[]string{"01", "03.1", "02"}, api.ErrClassificationParent}, {[]string{"02", "01", ""}, api.ErrClassificationOrder},
	} {
		if e := Validate(listed(x.codes...)); e != x.e {
			t.Error(i, e, x.e)
		}
	}
}

func TestNoCodeInAList(t *testing.T) {
	for _, s := range noCodes {
		for place := range len(tree) + 1 {
			if e := Validate(listed(slices.Insert(slices.Clone(tree), place, s)...)); e != api.ErrClassificationCode {
				t.Errorf("%q %d %v", s, place, e)
			}
		}
	}
}

// firstError is what the document says of Validate.
func firstError(list []string) api.Errno {
	if len(list) == 0 || len(list) > 200 {
		return api.ErrClassificationCount
	}
	for i, code := range list {
		if !codeForm.MatchString(code) {
			return api.ErrClassificationCode
		}
		if i > 0 && order(list[i-1], code) >= 0 {
			return api.ErrClassificationOrder
		}
		if dot := strings.LastIndexByte(code, '.'); dot >= 0 && !slices.Contains(list[:i], code[:dot]) {
			return api.ErrClassificationParent
		}
	}
	return api.OK
}

// changed returns lists that are like a valid one: with a code less, or more, or two that have changed places.
func changed(list []string) [][]string {
	var all [][]string
	for i := range list {
		all = append(all, slices.Delete(slices.Clone(list), i, i+1))
		for k := range i {
			swapped := slices.Clone(list)
			swapped[i], swapped[k] = swapped[k], swapped[i]
			all = append(all, swapped, slices.Insert(slices.Clone(list), i, list[k]), slices.Insert(slices.Clone(list), k, list[i]))
		}
		all = append(all, slices.Insert(slices.Clone(list), i, "01.1.2"), slices.Insert(slices.Clone(list), i, "03.1"))
	}
	return all
}

func TestChangedLists(t *testing.T) {
	for _, list := range [][]string{tree, numbered(10), family(22)} {
		for _, other := range changed(list) {
			if e := Validate(listed(other...)); e != firstError(other) {
				t.Error(other, e, firstError(other))
			}
			for _, code := range []string{"", other[0], "01"} {
				checkTree(t, other, code)
			}
		}
	}
}

// below returns the codes one level below a code, and the leaves within it, as the document describes them.
func below(list []string, code string) (children, leaves []string) {
	if firstError(list) != api.OK || code != "" && !slices.Contains(list, code) {
		return nil, nil
	}
	for _, a := range list {
		if !inside(a, code) {
			continue
		}
		if !slices.ContainsFunc(list, func(c string) bool { return strings.HasPrefix(c, a+".") }) {
			leaves = append(leaves, a)
		}
		rest := strings.TrimPrefix(a, code+".")
		if code == "" {
			rest = a
		}
		if a != code && !strings.Contains(rest, ".") {
			children = append(children, a)
		}
	}
	return children, leaves
}

func checkTree(t *testing.T, list []string, code string) {
	t.Helper()
	children, leaves := below(list, code)
	if got := Children(listed(list...), code); !slices.Equal(got, children) {
		t.Errorf("%v Children %q %q %q", list, code, got, children)
	}
	if got := Leaves(listed(list...), code); !slices.Equal(got, leaves) {
		t.Errorf("%v Leaves %q %q %q", list, code, got, leaves)
	}
}

func TestTreeOfTheDocument(t *testing.T) {
	c := listed("01", "01.1", "01.2", "02")
	for _, x := range []struct {
		code             string
		children, leaves []string
	}{
		{"", []string{"01", "02"}, []string{"01.1", "01.2", "02"}},
		{"01", []string{"01.1", "01.2"}, []string{"01.1", "01.2"}},
		{"01.2", nil, []string{"01.2"}},
		{"02", nil, []string{"02"}},
	} {
		if children, leaves := Children(c, x.code), Leaves(c, x.code); !slices.Equal(children, x.children) || !slices.Equal(leaves, x.leaves) {
			t.Error(x, children, leaves)
		}
	}
	if !Cover(c, "", []string{"02", "01"}) || Cover(c, "", []string{"01", "01.1", "02"}) {
		t.Error("Cover")
	}
}

func TestChildrenAndLeaves(t *testing.T) {
	for _, list := range validLists() {
		for _, code := range slices.Concat([]string{""}, list) {
			checkTree(t, list, code)
			if len(Leaves(listed(list...), code)) == 0 {
				t.Error(list, code, "no leaves")
			}
		}
		for _, code := range slices.Concat(noCodes, []string{"03", "01.1.2", "01.12", "02.1", "10.1.1", "98.1", "50.99.1", "99.99.99.99.99"}) {
			checkTree(t, list, code)
		}
	}
}

// TestLeavesOfChildren has that the leaves within a code are those within its children, in order.
func TestLeavesOfChildren(t *testing.T) {
	for _, list := range validLists() {
		c := listed(list...)
		for _, code := range slices.Concat([]string{""}, list) {
			var leaves []string
			for _, child := range Children(c, code) {
				leaves = append(leaves, Leaves(c, child)...)
			}
			if leaves == nil {
				leaves = []string{code}
			}
			if got := Leaves(c, code); !slices.Equal(got, leaves) {
				t.Error(code, got, leaves)
			}
		}
	}
}

func TestNothingIsInAnInvalidClassification(t *testing.T) {
	for i, list := range [][]string{nil, {""}, {"01", "x"}, {"01", "01"}, {"02", "01"}, {"01.1"}, {"01", "01.1", "02.1"}, family(201), {"01", "01.10", "01.2"}} {
		c := listed(list...)
		for _, code := range []string{"", "01", "02", "01.1", "50", "x"} {
			if a, b := Children(c, code), Leaves(c, code); len(a)+len(b) != 0 {
				t.Error(i, code, a, b)
			}
			for _, cover := range [][]string{nil, {}, {""}, {code}, {"01"}, {"02"}, {"01", "02"}, {"50"}, list} {
				if Cover(c, code, cover) {
					t.Error(i, code, cover)
				}
			}
		}
	}
}

// covers is what the document says of Cover.
func covers(list []string, code string, cover []string) bool {
	_, leaves := below(list, code)
	if len(leaves) == 0 {
		return false
	}
	for _, s := range cover {
		if !slices.Contains(list, s) || !inside(s, code) {
			return false
		}
	}
	for _, leaf := range leaves {
		found := 0
		for _, s := range cover {
			if inside(leaf, s) {
				found++
			}
		}
		if found != 1 {
			return false
		}
	}
	return true
}

// TestEveryCover has all sets of codes of a list, in the order of the list and back.
func TestEveryCover(t *testing.T) {
	list := tree[:9]
	c := listed(tree...)
	found := 0
	for set := range uint(1) << len(list) {
		cover := make([]string, 0, bits.OnesCount(set))
		for i, code := range list {
			if set>>i&1 == 1 {
				cover = append(cover, code)
			}
		}
		for _, code := range []string{"", "01", "01.1", "01.1.10", "01.11.1", "02", "03"} {
			rest := slices.Clone(cover)
			if code == "" {
				rest = append(rest, "02", "10")
			}
			want := covers(tree, code, rest)
			if want {
				found++
			}
			got := Cover(c, code, rest)
			slices.Reverse(rest)
			if got != want || Cover(c, code, rest) != want {
				t.Error(code, rest, got, want)
			}
		}
	}
	// The children of 01 have 4, 1 and 2 covers, and 01 has one more than their product; "" has the same with 02 and 10.
	if found != 9+9+4+3+1 {
		t.Error(found)
	}
}

func TestCover(t *testing.T) {
	c := listed(tree...)
	leaves := Leaves(c, "")
	for i, x := range []struct {
		code string
		list []string
		want bool
	}{
		{"", []string{"10", "01", "02"}, true}, {"", leaves, true}, {"", []string{"02", "10.10", "01", "10.1"}, true},
		{"02", []string{"02"}, true}, {"10", []string{"10"}, true}, {"10", []string{"10.10", "10.1"}, true}, {"01.1.10.7.99", []string{"01.1.10.7.99"}, true},
		{"", nil, false}, {"", []string{""}, false}, {"", []string{"01", "02"}, false}, {"", []string{"01", "02", "10", "10"}, false}, {"", []string{"01", "02", "10", "10.1"}, false},
		{"", []string{"01", "02", "10", "03"}, false}, {"", []string{"01", "02", "10", ""}, false}, {"", []string{"01", "02", "10", "x"}, false}, {"", []string{"", "01", "02", "10"}, false},
		{"10", nil, false}, {"10", []string{"10.1"}, false}, {"10", []string{"10.1", "10.1"}, false}, {"10", []string{"10", "10.1"}, false}, {"10", []string{"10", "10.1", "10.10"}, false}, {"10", []string{"10.1", "10.2"}, false},
		{"10", []string{"10", "02"}, false}, {"10", []string{"02", "10"}, false}, {"10.1", []string{"10"}, false}, {"02", []string{"02", "02"}, false}, {"02", []string{""}, false}, {"02", nil, false},
		{"03", nil, false}, {"03", []string{"03"}, false}, {"x", nil, false}, {"x", []string{"x"}, false}, {"02.1", []string{"02.1"}, false}, {"02.1", []string{"02"}, false}, {"02", []string{"02.1"}, false},
		{"", slices.Concat(leaves, leaves), false}, {"", slices.Repeat([]string{"01"}, 1<<16), false}, {"", slices.Concat([]string{"01"}, slices.Repeat([]string{"10"}, 1<<16)), false},
	} {
		if got := Cover(c, x.code, x.list); got != x.want || got != covers(tree, x.code, x.list) {
			t.Error(i, x.code, got)
		}
	}
}

func TestCoverOfLongLists(t *testing.T) {
	for _, list := range validLists() {
		c := listed(list...)
		for _, code := range slices.Concat([]string{""}, list) {
			leaves := Leaves(c, code)
			slices.Reverse(leaves)
			if !Cover(c, code, leaves) || Cover(c, code, leaves[1:]) || Cover(c, code, append(leaves, leaves[0])) || Cover(c, code, []string{code}) != (code != "") {
				t.Error(list, code)
			}
		}
	}
}

func TestClassificationsAreNotChanged(t *testing.T) {
	memory := slices.Concat(tree, []string{"10.11", "11"})
	before := slices.Clone(memory)
	c := api.Classification{Name: "goods", Codes: memory[:len(tree)]}
	cover := []string{"10", "02", "01", "x"}
	for _, code := range []string{"", "01", "10", "11", "x"} {
		first, second := Children(c, code), Leaves(c, code)
		Cover(c, code, cover[:3])
		for i := range first {
			first[i] = "changed"
		}
		for i := range second {
			second[i] = "changed"
		}
		checkTree(t, tree, code)
	}
	Validate(c)
	if !slices.Equal(memory, before) || !slices.Equal(cover, []string{"10", "02", "01", "x"}) || c.Name != "goods" {
		t.Error("an argument was changed")
	}
	// What lies behind a list is not in it.
	if got := Children(c, "10"); !slices.Equal(got, []string{"10.1", "10.10"}) || !Cover(c, "", cover[:3]) || Cover(c, "", cover) {
		t.Error("spare capacity was read", got)
	}
}
