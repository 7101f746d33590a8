package product

import (
	"fmt"
	"math/rand/v2"
	"slices"
	"testing"

	"priceoffice/api"
)

// catalog returns a valid catalog of n products.
func catalog(n int) []api.Product {
	var list []api.Product
	for i := range n {
		list = append(list, article(idOf(fmt.Sprintf("%07d", 1000000+i)), "number", "n"))
	}
	return list
}

func checkCatalog(t *testing.T, list []api.Product, want api.Errno) {
	t.Helper()
	if e := ValidateCatalog(list); e != want {
		t.Errorf("%+v: %v, want %v", list, e, want)
	}
}

func TestSizesOfCatalogs(t *testing.T) {
	for _, n := range []int{0, 1, 2, 3, 199, 200} {
		checkCatalog(t, catalog(n), api.OK)
	}
	checkCatalog(t, []api.Product{}, api.OK)
	checkCatalog(t, catalog(201), api.ErrProductCount)
	checkCatalog(t, catalog(300), api.ErrProductCount)
	checkCatalog(t, make([]api.Product, 200), api.ErrProductID)
	checkCatalog(t, make([]api.Product, 201), api.ErrProductCount)
	checkCatalog(t, make([]api.Product, 1<<16), api.ErrProductCount)
}

func TestOrderOfCatalogs(t *testing.T) {
	long, short := article("4006381333931"), article("96385074")
	checkCatalog(t, []api.Product{long, short}, api.OK)
	checkCatalog(t, []api.Product{short, long}, api.ErrProductOrder)
	checkCatalog(t, []api.Product{short, short}, api.ErrProductOrder)
	checkCatalog(t, []api.Product{long, short, short}, api.ErrProductOrder)
	// Bytewise, an ID that another one begins with is less than that one.
	longer := article(idOf(short.ID + "0000"))
	checkCatalog(t, []api.Product{short, longer}, api.OK)
	checkCatalog(t, []api.Product{longer, short}, api.ErrProductOrder)
}

// TestOneErrorInACatalog changes each product of a catalog in each way.
func TestOneErrorInACatalog(t *testing.T) {
	changes := map[api.Errno]func(list []api.Product, i int){
		api.ErrProductID:        func(list []api.Product, i int) { list[i].ID = "" },
		api.ErrProductCode:      func(list []api.Product, i int) { list[i].Code = "" },
		api.ErrProductBrand:     func(list []api.Product, i int) { list[i].Brand = "" },
		api.ErrProductSize:      func(list []api.Product, i int) { list[i].Size.Amount = 0 },
		api.ErrProductAttribute: func(list []api.Product, i int) { list[i].Attributes = attributes("a", "") },
		api.ErrProductOrder:     func(list []api.Product, i int) { list[i] = article("99999995") },
	}
	const n = 7
	for first, change := range changes {
		for i := range n {
			list := catalog(n)
			change(list, i)
			// The greatest ID makes the next product the first one out of order.
			if first != api.ErrProductOrder || i+1 < n {
				checkCatalog(t, list, first)
			}
			for _, other := range changes {
				for k := i + 2; k < n; k++ {
					both := slices.Clone(list)
					other(both, k)
					checkCatalog(t, both, first)
				}
			}
		}
	}
}

func TestErrorsOfOneElement(t *testing.T) {
	list := catalog(3)
	// The product is not valid and not in order: the former counts.
	list[1] = article("00000000", "", "")
	checkCatalog(t, list, api.ErrProductAttribute)
	list[1] = article("0", "", "")
	checkCatalog(t, list, api.ErrProductID)
	list[1] = article("00000000")
	checkCatalog(t, list, api.ErrProductOrder)
	// The product before counts with its order, the one behind it with nothing.
	list[2].Brand = ""
	checkCatalog(t, list, api.ErrProductOrder)
	list[0].Brand = "-"
	checkCatalog(t, list, api.ErrProductBrand)
	// A product is compared with the one before it, not with an earlier one.
	checkCatalog(t, []api.Product{article("00000000"), article("96385074"), article("4006381333931")}, api.ErrProductOrder)
}

func TestRandomCatalogs(t *testing.T) {
	random := rand.New(rand.NewPCG(5, 26))
	want := func(list []api.Product) api.Errno {
		before := ""
		for _, p := range list {
			if e := verdict(p); e != api.OK {
				return e
			}
			if !(p.ID > before) {
				return api.ErrProductOrder
			}
			before = p.ID
		}
		return api.OK
	}
	for range 3000 {
		var list []api.Product
		for _, p := range catalog(random.IntN(6)) {
			if random.IntN(10) == 0 {
				p = randomProduct(random)
			}
			list = append(list, p)
		}
		checkCatalog(t, list, want(list))
	}
}

func TestFind(t *testing.T) {
	list := []api.Product{article("96385074", "b", "1", "a", "1"), article("4006381333931"), article("96385074", "late", "x"), {ID: "", Brand: "empty"}, {ID: "no id", Code: "?", Attributes: attributes("", "", "", "")}}
	for id, place := range map[string]int{"96385074": 0, "4006381333931": 1, "": 3, "no id": 4} {
		if got, ok := Find(list, id); !ok || !sameProducts(got, list[place]) {
			t.Errorf("%q: %+v %v", id, got, ok)
		}
	}
	for _, id := range []string{"9638507", "963850740", "00000000", " ", "NO ID", "no id\x00", "acme"} {
		if got, ok := Find(list, id); ok || !sameProducts(got, api.Product{}) {
			t.Errorf("%q: %+v %v", id, got, ok)
		}
	}
	for _, none := range [][]api.Product{nil, {}, list[:3], list[1:2:2]} {
		if got, ok := Find(none, ""); ok || !sameProducts(got, api.Product{}) {
			t.Errorf("%+v %v", got, ok)
		}
	}
	// A list that is longer than a catalog, and in no order.
	many := catalog(500)
	slices.Reverse(many)
	for i, p := range many {
		many[i].Brand = fmt.Sprint("b", i)
		if got, ok := Find(many, p.ID); !ok || got.Brand != many[i].Brand {
			t.Errorf("%+v %v", got, ok)
		}
	}
}
