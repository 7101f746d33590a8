package product

import (
	"math/rand/v2"
	"regexp"
	"slices"
	"strconv"
	"strings"
	"testing"

	"priceoffice/api"
)

var (
	nameForm = regexp.MustCompile(`\A[a-z0-9][a-z0-9.-]{0,23}\z`)
	codeForm = regexp.MustCompile(`\A(?:0[1-9]|[1-9][0-9])(?:\.[1-9][0-9]?){0,4}\z`)
)

// attributes returns attributes of names and values that are given in turn.
func attributes(words ...string) []api.Attribute {
	var list []api.Attribute
	for i := 0; i+1 < len(words); i += 2 {
		list = append(list, api.Attribute{Name: words[i], Value: words[i+1]})
	}
	return list
}

// article returns a product that is valid if its ID and attributes are.
func article(id string, words ...string) api.Product {
	return api.Product{ID: id, Code: "01.1", Brand: "acme", Size: api.Quantity{Dimension: api.Volume, Count: 6, Amount: 330}, Attributes: attributes(words...)}
}

// numbered returns n attributes of different names.
func numbered(n int) []api.Attribute {
	var list []api.Attribute
	for i := range n {
		list = append(list, api.Attribute{Name: "n" + strconv.Itoa(n-i), Value: "v"})
	}
	return list
}

func sameProducts(a, b api.Product) bool {
	return a.ID == b.ID && a.Code == b.Code && a.Brand == b.Brand && a.Size == b.Size && slices.Equal(a.Attributes, b.Attributes)
}

// verdict describes the errors of products independently of the package.
func verdict(p api.Product) api.Errno {
	if !wantID(p.ID) {
		return api.ErrProductID
	}
	if !codeForm.MatchString(p.Code) {
		return api.ErrProductCode
	}
	if !nameForm.MatchString(p.Brand) {
		return api.ErrProductBrand
	}
	q := p.Size
	if q.Dimension <= 0 || q.Dimension >= 5 || q.Count <= 0 || q.Count >= 101 || q.Amount <= 0 || q.Amount > (1<<40)/int64(q.Count) {
		return api.ErrProductSize
	}
	if len(p.Attributes) >= 13 {
		return api.ErrProductAttribute
	}
	for i, a := range p.Attributes {
		if !nameForm.MatchString(a.Name) || !nameForm.MatchString(a.Value) {
			return api.ErrProductAttribute
		}
		for _, b := range p.Attributes[:i] {
			if a.Name == b.Name {
				return api.ErrProductAttribute
			}
		}
	}
	return api.OK
}

func checkProduct(t *testing.T, p api.Product) {
	t.Helper()
	if e, want := Validate(p), verdict(p); e != want {
		t.Errorf("%+v: %v, want %v", p, e, want)
	}
}

func checkProductIs(t *testing.T, p api.Product, want api.Errno) {
	t.Helper()
	if e := Validate(p); e != want {
		t.Errorf("%+v: %v, want %v", p, e, want)
	}
	checkProduct(t, p)
}

// TestErrorsInTheirOrder breaks every set of the conditions: the error is that of the first one.
func TestErrorsInTheirOrder(t *testing.T) {
	breaks := []func(p *api.Product){
		func(p *api.Product) { p.ID = "96385073" },
		func(p *api.Product) { p.Code = "1" },
		func(p *api.Product) { p.Brand = "Acme" },
		func(p *api.Product) { p.Size.Count = 0 },
		func(p *api.Product) { p.Attributes = attributes("n", "v", "n", "w") },
	}
	errors := []api.Errno{api.ErrProductID, api.ErrProductCode, api.ErrProductBrand, api.ErrProductSize, api.ErrProductAttribute, api.OK}
	for set := range 1 << len(breaks) {
		p, first := article("96385074", "size", "l"), len(breaks)
		for i, change := range breaks {
			if set>>i&1 == 1 {
				change(&p)
				first = min(first, i)
			}
		}
		checkProductIs(t, p, errors[first])
	}
	checkProductIs(t, api.Product{}, api.ErrProductID)
	checkProductIs(t, api.Product{ID: "96385074"}, api.ErrProductCode)
	checkProductIs(t, api.Product{ID: "96385074", Code: "01"}, api.ErrProductBrand)
	checkProductIs(t, api.Product{ID: "96385074", Code: "01", Brand: "b"}, api.ErrProductSize)
	checkProductIs(t, api.Product{ID: "96385074", Code: "01", Brand: "b", Size: api.Quantity{Dimension: 1, Count: 1, Amount: 1}}, api.OK)
}

func TestIDsAndCodesOfProducts(t *testing.T) {
	for _, id := range someIDs() {
		checkProductIs(t, article(id), api.OK)
		checkProductIs(t, article(id[1:]), api.ErrProductID)
		checkProductIs(t, article(id+"0"), api.ErrProductID)
	}
	for _, code := range []string{"01", "99", "01.1", "99.99.99.99.99", "10.10.10"} {
		p := article("96385074")
		p.Code = code
		checkProductIs(t, p, api.OK)
	}
	for _, code := range []string{"", "0", "1", "00", "001", "01.", ".01", "01.0", "01.01", "01.100", "01.1.1.1.1.1", "01 ", "all", "01.1\n", "x"} {
		p := article("96385074")
		p.Code = code
		checkProductIs(t, p, api.ErrProductCode)
	}
}

func TestSizesOfProducts(t *testing.T) {
	for _, dimension := range []int{-1, 0, 1, 2, 3, 4, 5} {
		for _, count := range []int{-1, 0, 1, 2, 100, 101} {
			for _, amount := range []int64{-1, 0, 1, api.MaxQuantity / 100, api.MaxQuantity/100 + 1, api.MaxQuantity / 2, api.MaxQuantity/2 + 1, api.MaxQuantity, api.MaxQuantity + 1} {
				p := article("96385074")
				p.Size = api.Quantity{Dimension: dimension, Count: count, Amount: amount}
				checkProduct(t, p)
			}
		}
	}
}

// textsForNames returns strings, some of which are names.
func textsForNames() []string {
	list := []string{"", "acme", "a", "0", "9", "z", "a-b.c", "9..-", "0.-", "-", ".", "-a", ".a", "a-", "a.", "A", "aB", "a b", " a", "a ", "a_b", "a/b", "a=b", "a|b", "\u00e4", "a\u00e4", "\xff", "a\xff", "a\n", "\n", "a\x00", "\uff41"}
	for n := 22; n < 28; n++ {
		for _, s := range []string{"a", "0", "-", ".", "\u00e4"} {
			list = append(list, strings.Repeat(s, n), "a"+strings.Repeat(s, n-1), strings.Repeat(s, n-1)+"a")
		}
	}
	for b := range 256 {
		s := string([]byte{byte(b)})
		list = append(list, s, "a"+s, s+"a", "a"+s+"a")
	}
	return append(list, strings.Repeat("a", 1<<20))
}

func TestNames(t *testing.T) {
	for _, s := range textsForNames() {
		want := api.OK
		if !nameForm.MatchString(s) {
			want = api.ErrProductAttribute
		}
		checkProductIs(t, article("96385074", s, "v"), want)
		checkProductIs(t, article("96385074", "n", s), want)
		checkProductIs(t, article("96385074", "n", "v", "m", "v", "o", s), want)
		checkProductIs(t, article("96385074", "n", "v", "o", "v", s, "w", "p", "v"), verdict(article("96385074", "n", "v", "o", "v", s, "w", "p", "v")))
		p := article("96385074", "n", "v")
		p.Brand = s
		if want != api.OK {
			want = api.ErrProductBrand
		}
		checkProductIs(t, p, want)
	}
}

func TestAttributesOfProducts(t *testing.T) {
	p := article("96385074")
	for n := range 20 {
		p.Attributes = numbered(n)
		want := api.OK
		if n > api.MaxAttributes {
			want = api.ErrProductAttribute
		}
		checkProductIs(t, p, want)
		for i := range n {
			for k := range i {
				p.Attributes = numbered(n)
				p.Attributes[i].Name = p.Attributes[k].Name
				checkProductIs(t, p, api.ErrProductAttribute)
				p.Attributes[i].Value = "w"
				checkProductIs(t, p, api.ErrProductAttribute)
			}
		}
	}
	for _, words := range [][]string{{"n", "v", "m", "v"}, {"n", "m", "m", "n"}, {"n", "n"}, {"size", "l", "siz", "el"}, {"n", "v", "n.", "v", "n-", "v"}} {
		p.Attributes = attributes(words...)
		checkProductIs(t, p, api.OK)
	}
	for _, words := range [][]string{{"n", "v", "n", "v"}, {"n", "v", "m", "v", "n", "w"}, {"", "v"}, {"n", ""}, {"", ""}, {"n", "v", "N", "v"}} {
		p.Attributes = attributes(words...)
		checkProductIs(t, p, api.ErrProductAttribute)
	}
}

// randomProduct returns a product of few brands, codes, names and values; it is often valid.
func randomProduct(random *rand.Rand) api.Product {
	pick := func(words ...string) string { return words[random.IntN(len(words))] }
	p := article(pick("96385074", "96385074", "4006381333931", "4006381333930"))
	p.Code, p.Brand = pick("01", "01.1", "01.1", "01.10", "99.1.1.1.1"), pick("acme", "acme", "a", "b", "9.-")
	for range random.IntN(6) {
		p.Attributes = append(p.Attributes, api.Attribute{Name: pick("a", "b", "c", "d", "a.b", "a-b", "ab", "9"), Value: pick("1", "1", "2", "3")})
	}
	switch random.IntN(40) {
	case 0:
		p.Code = ""
	case 1:
		p.Brand = ""
	case 2:
		p.Size = api.Quantity{}
	case 3:
		p.Attributes = append(p.Attributes, api.Attribute{Name: "", Value: "x"})
	case 4:
		p.Attributes = append(p.Attributes, api.Attribute{Name: "A", Value: "="}, api.Attribute{Name: "\xff", Value: "|"})
	}
	return p
}

func TestRandomProducts(t *testing.T) {
	random := rand.New(rand.NewPCG(2, 26))
	for range 5000 {
		checkProduct(t, randomProduct(random))
	}
}
