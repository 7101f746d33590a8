package product

import (
	"math/rand/v2"
	"slices"
	"testing"

	"priceoffice/api"
)

// lent returns p with attributes in memory of its own, with spare capacity that must be neither read nor written.
func lent(p api.Product) api.Product {
	n := len(p.Attributes)
	p.Attributes = append(slices.Clone(p.Attributes), attributes("zz", "1", "", "2", "a", "3")...)[:n]
	return p
}

func lentList(list []api.Product) []api.Product {
	var memory []api.Product
	for _, p := range list {
		memory = append(memory, lent(p))
	}
	return append(memory, article("96385074", "zz", "1"), article("96385074"))[:len(list)]
}

// identicalMemory reports whether two products agree in all their attributes, spare capacity included.
func identicalMemory(a, b api.Product) bool {
	n := len(a.Attributes) + 3
	return len(a.Attributes) == len(b.Attributes) && sameProducts(a, b) && slices.Equal(a.Attributes[:n], b.Attributes[:n])
}

func TestArgumentsAreNeitherChangedNorShared(t *testing.T) {
	overwrite := func(p api.Product) { clear(p.Attributes[:cap(p.Attributes)]) }
	calls := map[string]func(a, b api.Product){
		"Validate":  func(a, b api.Product) { Validate(a) },
		"Normalize": func(a, b api.Product) { overwrite(Normalize(a)) },
		"Key":       func(a, b api.Product) { Key(a) },
		"Differences": func(a, b api.Product) {
			names := Differences(a, b)
			clear(names[:cap(names)])
		},
		"ValidateCatalog": func(a, b api.Product) { ValidateCatalog([]api.Product{a, b}) },
		"Find": func(a, b api.Product) {
			list := lentList([]api.Product{a, b})
			for range 2 {
				p, _ := Find(list, b.ID)
				overwrite(p)
			}
			want := lentList([]api.Product{a, b})
			if !slices.EqualFunc(list, want, identicalMemory) || !slices.EqualFunc(list[:4], want[:4], sameProducts) {
				t.Error("Find changed its argument")
			}
		},
	}
	random := rand.New(rand.NewPCG(6, 26))
	for range 300 {
		a, b := randomProduct(random), randomProduct(random)
		for name, call := range calls {
			gotA, gotB := lent(a), lent(b)
			call(gotA, gotB)
			if !identicalMemory(gotA, lent(a)) || !identicalMemory(gotB, lent(b)) {
				t.Errorf("%s changed %+v or %+v", name, a, b)
			}
			call(gotA, gotA)
		}
	}
}

// TestSpareMemoryIsNotRead has lists whose memory goes on behind their end.
func TestSpareMemoryIsNotRead(t *testing.T) {
	p, bare := lent(article("96385074")), article("96385074")
	if !sameProducts(Normalize(p), bare) || Key(p) != Key(bare) || len(Differences(p, bare)) != 0 || Validate(p) != api.OK {
		t.Error("spare capacity was read")
	}
	if _, ok := Find(lentList(nil), "96385074"); ok || ValidateCatalog(lentList(catalog(2))) != api.OK {
		t.Error("spare capacity was read")
	}
}
