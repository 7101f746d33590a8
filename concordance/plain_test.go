package concordance

import (
	"math/rand/v2"
	"slices"
	"strconv"
	"strings"
	"testing"

	"priceoffice/api"
)

func TestIdentity(t *testing.T) {
	random := rand.New(rand.NewPCG(18, 7))
	lists := [][]string{{"01"}, {"01", "01.1", "01.2", "02"}, {"01", "01.2", "01.10"}, {"01", "01.1", "01.1.1", "01.1.1.1", "01.1.1.1.1"}, closed(leafCodes), closed(targets(fan(400, 80)))}
	for range 50 {
		lists = append(lists, closed(scattered(random, leafCodes, 5)))
	}
	for _, list := range lists {
		var want []api.Link
		for _, code := range list {
			if !slices.ContainsFunc(list, func(c string) bool { return strings.HasPrefix(c, code+".") }) {
				want = append(want, link(code, code, 1, 1))
			}
		}
		got := Identity(api.Classification{Name: "x\x00", Codes: list})
		if !sameLinks(got, want) || Validate(got, listed(list...), listed(list...)) != api.OK {
			t.Error(list, got)
		}
		if plain := Unsplit(got); !sameLinks(plain, want) {
			t.Error(list, plain)
		}
	}
}

func TestIdentityOfInvalidClassifications(t *testing.T) {
	for i, list := range [][]string{nil, {}, {""}, {"x"}, {"01", "x"}, {"02", "01"}, {"01", "01"}, {"01.1"}, {"01", "02", "03.1"}, {"01", "01.10", "01.2"}, slices.Repeat([]string{"01"}, 201), make([]string, 200)} {
		if got := Identity(listed(list...)); len(got) != 0 {
			t.Error(i, got)
		}
	}
}

// alone returns the links of the list that share neither end with another place of the list.
func alone(links []api.Link) []api.Link {
	var out []api.Link
	for i, x := range links {
		shared := false
		for k, y := range links {
			shared = shared || i != k && (x.From == y.From || x.To == y.To)
		}
		if !shared {
			out = append(out, api.Link{From: x.From, To: x.To, Share: ratio(value(x.Share))})
		}
	}
	return out
}

func TestUnsplit(t *testing.T) {
	free := []api.Link{link("x", "y", -2, 3), link("01", "02", 1, 1), link("02", "03", 1, 1), link("02", "04", 1, 1), link("03", "05", 1, 1), link("04", "05", 1, 1), link("05", "06", 0, 1)}
	for i, x := range []struct{ links, want []api.Link }{
		{split(), nil}, {nil, nil}, {[]api.Link{}, nil}, {split()[2:], split()[2:]}, {split()[1:], nil}, {free, []api.Link{free[0], free[1], free[6]}},
		{make([]api.Link, 1), make([]api.Link, 1)}, {make([]api.Link, 2), nil}, {[]api.Link{link("01", "02", 1, 2), link("01", "02", 1, 2)}, nil},
		// From and To are of two classifications, and the list is in its own order.
		{[]api.Link{link("02", "01", 5, 1), link("01", "02", -5, 1)}, []api.Link{link("02", "01", 5, 1), link("01", "02", -5, 1)}}, {[]api.Link{link("", "", 1, 1), link("a", "b", 1, 1), link("", "c", 1, 1)}, []api.Link{link("a", "b", 1, 1)}},
	} {
		for _, list := range [][]api.Link{x.links, looseLinks(x.links)} {
			if got := Unsplit(list); !sameLinks(got, x.want) || !sameLinks(got, alone(list)) {
				t.Error(i, got)
			}
		}
	}
}

func TestUnsplitScatteredLinks(t *testing.T) {
	random := rand.New(rand.NewPCG(20, 7))
	for size := range 24 {
		for range 40 {
			links := make([]api.Link, size)
			for i := range links {
				links[i] = link(strconv.Itoa(random.IntN(2*size)), strconv.Itoa(random.IntN(2*size)), random.Int64N(9)-4, 1+random.Int64N(4))
			}
			if got := Unsplit(links); !sameLinks(got, alone(links)) {
				t.Error(links, got)
			}
		}
	}
}

func TestUnsplitALongList(t *testing.T) {
	var links []api.Link
	for i := range 1 << 17 {
		links = append(links, link(strconv.Itoa(i), strconv.Itoa(-i), int64(i), 7))
	}
	if got := Unsplit(links); !sameLinks(got, links) {
		t.Error(len(got))
	}
	if got := Unsplit(append(links, link("0", "5", 1, 1))); !sameLinks(got, links[1:]) {
		t.Error(len(got))
	}
	if got := Unsplit(append(links, links...)); len(got) != 0 {
		t.Error(len(got))
	}
}
