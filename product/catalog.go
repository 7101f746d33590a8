package product

import "priceoffice/api"

// ValidateCatalog returns the first error of a catalog.
func ValidateCatalog(list []api.Product) api.Errno {
	if len(list) > api.MaxProducts {
		return api.ErrProductCount
	}
	for i, p := range list {
		if e := Validate(p); e != api.OK {
			return e
		}
		if i > 0 && p.ID <= list[i-1].ID {
			return api.ErrProductOrder
		}
	}
	return api.OK
}

// Find returns the product with an ID.
func Find(list []api.Product, id string) (api.Product, bool) {
	for _, p := range list {
		if p.ID == id {
			return copied(p), true
		}
	}
	return api.Product{}, false
}
