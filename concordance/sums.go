package concordance

import (
	"slices"

	"priceoffice/api"
	"priceoffice/classification"
	"priceoffice/rational"
)

func source(link api.Link) string { return link.From }

func target(link api.Link) string { return link.To }

// totals returns the sum of the shares of the links at each end.
func totals(links []api.Link, end func(api.Link) string) map[string]api.Ratio {
	sums := map[string]api.Ratio{}
	for _, link := range links {
		sums[end(link)] = rational.Add(sums[end(link)], link.Share)
	}
	return sums
}

// grouped returns the links of each From, in their order.
func grouped(links []api.Link) map[string][]api.Link {
	groups := map[string][]api.Link{}
	for _, link := range links {
		groups[link.From] = append(groups[link.From], link)
	}
	return groups
}

// sortedCodes returns the keys of a map in the order of codes.
func sortedCodes[V any](values map[string]V) []string {
	var codes []string
	for code := range values {
		codes = append(codes, code)
	}
	slices.SortFunc(codes, classification.Compare)
	return codes
}

// partsOf returns the links of the amounts' codes, each with its part of the amount in place of its share.
func partsOf(linked map[string][]api.Link, amounts []api.Amount) []api.Link {
	var parts []api.Link
	for _, amount := range amounts {
		for _, link := range linked[amount.Code] {
			link.Share = rational.Mul(amount.Value, link.Share)
			parts = append(parts, link)
		}
	}
	return parts
}

// converted returns what the links of the amounts' codes give to each To, sorted.
func converted(linked map[string][]api.Link, amounts []api.Amount) []api.Amount {
	sums := totals(partsOf(linked, amounts), target)
	var list []api.Amount
	for _, code := range sortedCodes(sums) {
		list = append(list, api.Amount{Code: code, Value: sums[code]})
	}
	return list
}
