package product

import (
	"slices"
	"strings"

	"priceoffice/api"
	"priceoffice/name"
)

// validAttributes reports whether a product may have these attributes.
func validAttributes(list []api.Attribute) bool {
	if len(list) > api.MaxAttributes {
		return false
	}
	seen := map[string]bool{}
	for _, a := range list {
		if !name.Valid(a.Name) || !name.Valid(a.Value) || seen[a.Name] {
			return false
		}
		seen[a.Name] = true
	}
	return true
}

// Normalize returns p with its attributes sorted by name.
func Normalize(p api.Product) api.Product {
	p = copied(p)
	slices.SortStableFunc(p.Attributes, func(a, b api.Attribute) int {
		return strings.Compare(a.Name, b.Name)
	})
	return p
}

// copied returns a product that shares no memory with p.
func copied(p api.Product) api.Product {
	p.Attributes = append([]api.Attribute(nil), p.Attributes...)
	return p
}

// Key returns a string that two products share if they differ in ID and size alone.
func Key(p api.Product) string {
	parts := []string{p.Code, p.Brand}
	for _, a := range Normalize(p).Attributes {
		parts = append(parts, a.Name+"="+a.Value)
	}
	return strings.Join(parts, "|")
}

// Differences returns the names of the attributes in which two products differ.
func Differences(a, b api.Product) []string {
	names := append(namesOutside(a.Attributes, b.Attributes), namesOutside(b.Attributes, a.Attributes)...)
	slices.Sort(names)
	return slices.Compact(names)
}

// namesOutside returns the names of the attributes of a list that another one does not have.
func namesOutside(list, other []api.Attribute) []string {
	others := map[api.Attribute]bool{}
	for _, a := range other {
		others[a] = true
	}
	var names []string
	for _, a := range list {
		if !others[a] {
			names = append(names, a.Name)
		}
	}
	return names
}
