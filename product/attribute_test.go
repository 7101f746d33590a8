package product

import (
	"math/rand/v2"
	"slices"
	"sort"
	"testing"

	"priceoffice/api"
)

// wantNormal inserts the attributes one by one behind those whose names are not greater.
func wantNormal(p api.Product) api.Product {
	var list []api.Attribute
	for _, a := range p.Attributes {
		place := 0
		for i, b := range list {
			if b.Name <= a.Name {
				place = i + 1
			}
		}
		list = slices.Insert(list, place, a)
	}
	p.Attributes = list
	return p
}

func wantKey(p api.Product) string {
	key := p.Code + "|" + p.Brand
	for _, a := range wantNormal(p).Attributes {
		key += "|" + a.Name + "=" + a.Value
	}
	return key
}

// wantDifferences asks for every name, whether the sets of its values differ.
func wantDifferences(a, b api.Product) []string {
	values := func(p api.Product, name string) []string {
		var list []string
		for _, x := range p.Attributes {
			if x.Name == name && !slices.Contains(list, x.Value) {
				list = append(list, x.Value)
			}
		}
		sort.Strings(list)
		return list
	}
	var names []string
	for _, x := range slices.Concat(a.Attributes, b.Attributes) {
		if !slices.Contains(names, x.Name) && !slices.Equal(values(a, x.Name), values(b, x.Name)) {
			names = append(names, x.Name)
		}
	}
	sort.Strings(names)
	return names
}

func TestNormalize(t *testing.T) {
	for _, x := range []struct{ given, want []string }{
		{nil, nil},
		{[]string{"a", "1"}, []string{"a", "1"}},
		{[]string{"size", "l", "colour", "red"}, []string{"colour", "red", "size", "l"}},
		{[]string{"b", "2", "a", "3", "b", "1", "a", "1", "b", "3"}, []string{"a", "3", "a", "1", "b", "2", "b", "1", "b", "3"}},
		{[]string{"a.b", "1", "ab", "1", "a-b", "1", "a", "1", "b", "1", "9", "1"}, []string{"9", "1", "a", "1", "a-b", "1", "a.b", "1", "ab", "1", "b", "1"}},
		{[]string{"\xff", "", "\u00e9", "", "a", "", "Z", "", "", ""}, []string{"", "", "Z", "", "a", "", "\u00e9", "", "\xff", ""}},
		{[]string{"10", "1", "9", "1"}, []string{"10", "1", "9", "1"}},
	} {
		p := article("96385074", x.given...)
		if got := Normalize(p); !sameProducts(got, article("96385074", x.want...)) {
			t.Errorf("%+v", got)
		}
		if !slices.Equal(p.Attributes, attributes(x.given...)) {
			t.Errorf("changed %+v", p)
		}
	}
	odd := api.Product{ID: "x", Code: "?", Brand: "B", Size: api.Quantity{Dimension: -1, Count: -2, Amount: -3}}
	if got := Normalize(odd); !sameProducts(got, odd) {
		t.Errorf("%+v", got)
	}
	// Many equal names, as the order of a few of them would be kept by a sort that is not stable.
	var many api.Product
	for i := range 1000 {
		many.Attributes = append(many.Attributes, api.Attribute{Name: string(rune('a' + i*7%3)), Value: string(rune(i + 1))})
	}
	if !sameProducts(Normalize(many), wantNormal(many)) {
		t.Error("the order of equal names was changed")
	}
}

func TestKey(t *testing.T) {
	for _, x := range []struct {
		p    api.Product
		want string
	}{
		{api.Product{Code: "01.1", Brand: "acme", Attributes: attributes("size", "l", "colour", "red")}, "01.1|acme|colour=red|size=l"},
		{api.Product{}, "|"},
		{api.Product{ID: "96385074", Size: api.Quantity{Dimension: 1, Count: 1, Amount: 1}}, "|"},
		{api.Product{Code: "01"}, "01|"},
		{api.Product{Brand: "acme"}, "|acme"},
		{article("96385074"), "01.1|acme"},
		{article("96385074", "a", "1"), "01.1|acme|a=1"},
		{article("x", "b", "2", "a", "3", "b", "1"), "01.1|acme|a=3|b=2|b=1"},
		{article("", "", ""), "01.1|acme|="},
		{article("", "|", "=", "=", "|"), "01.1|acme|==|||=="},
	} {
		if got := Key(x.p); got != x.want {
			t.Errorf("%+v: %q, want %q", x.p, got, x.want)
		}
	}
}

func TestDifferences(t *testing.T) {
	for _, x := range []struct{ a, b, want []string }{
		{nil, nil, nil},
		{[]string{"a", "1", "b", "2"}, []string{"a", "1", "b", "3", "c", "4"}, []string{"b", "c"}},
		{[]string{"b", "2", "a", "1"}, []string{"a", "1", "b", "2"}, nil},
		{nil, []string{"z", "1", "a", "1", "m", "1"}, []string{"a", "m", "z"}},
		{[]string{"a", "1", "a", "2"}, []string{"a", "2", "a", "1", "a", "1"}, nil},
		{[]string{"a", "1", "a", "2"}, []string{"a", "1"}, []string{"a"}},
		{[]string{"a", "1", "a", "2", "a", "3"}, []string{"a", "4"}, []string{"a"}},
		{[]string{"a", "1"}, []string{"b", "1"}, []string{"a", "b"}},
		{[]string{"a", "bc"}, []string{"ab", "c"}, []string{"a", "ab"}},
		{[]string{"a", ""}, nil, []string{"a"}},
		{[]string{"", ""}, nil, []string{""}},
		{[]string{"b", "1", "a-b", "1", "10", "1"}, []string{"ab", "1", "a.b", "1", "9", "1", "A", "1"}, []string{"10", "9", "A", "a-b", "a.b", "ab", "b"}},
	} {
		there, back := Differences(article("", x.a...), article("", x.b...)), Differences(article("", x.b...), article("", x.a...))
		if !slices.Equal(there, x.want) || !slices.Equal(back, x.want) {
			t.Errorf("%q: %q %q", x, there, back)
		}
	}
	// Nothing but the attributes counts.
	other := api.Product{ID: "y", Code: "02", Brand: "other", Attributes: attributes("a", "1")}
	if got := Differences(article("96385074", "a", "1"), other); len(got) != 0 {
		t.Errorf("%q", got)
	}
}

func TestRandomAttributes(t *testing.T) {
	random := rand.New(rand.NewPCG(3, 26))
	for range 4000 {
		a, b := randomProduct(random), randomProduct(random)
		if got := Normalize(a); !sameProducts(got, wantNormal(a)) || !sameProducts(Normalize(got), got) {
			t.Errorf("%+v: %+v", a, got)
		}
		if got := Key(a); got != wantKey(a) || Key(Normalize(a)) != got {
			t.Errorf("%+v: %+v", a, got)
		}
		if got := Differences(a, b); !slices.Equal(got, wantDifferences(a, b)) {
			t.Errorf("%+v %+v: %q", a, b, got)
		}
	}
}

// TestKeysOfValidProducts has what the document concludes of equal keys.
func TestKeysOfValidProducts(t *testing.T) {
	random := rand.New(rand.NewPCG(4, 26))
	var valid []api.Product
	for range 500 {
		if p := randomProduct(random); Validate(p) == api.OK {
			turned := p
			turned.Attributes = slices.Clone(p.Attributes)
			slices.Reverse(turned.Attributes)
			valid = append(valid, p, turned)
		}
	}
	equal := 0
	for _, a := range valid {
		for _, b := range valid {
			differences := Differences(a, b)
			agree := a.Code == b.Code && a.Brand == b.Brand && len(differences) == 0
			if (Key(a) == Key(b)) != agree {
				t.Fatalf("%+v %+v: %q", a, b, differences)
			}
			if agree && !slices.Equal(a.Attributes, b.Attributes) {
				equal++
			}
		}
	}
	if equal == 0 {
		t.Error("no equal keys of different orders were compared")
	}
}
