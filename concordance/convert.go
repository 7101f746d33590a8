package concordance

import (
	"slices"

	"priceoffice/api"
	"priceoffice/classification"
	"priceoffice/rational"
)

// Convert distributes amounts by the shares of the links.
func Convert(links []api.Link, amounts []api.Amount) ([]api.Amount, api.Errno) {
	if e := checkSound(links); e != api.OK {
		return nil, e
	}
	if !isSorted(amounts) {
		return nil, api.ErrConcordanceAmounts
	}
	linked := grouped(links)
	for _, amount := range amounts {
		if len(linked[amount.Code]) == 0 {
			return nil, api.ErrConcordanceMissing
		}
	}
	return converted(linked, amounts), api.OK
}

// isSorted reports whether each code of the amounts is a code that comes after the one before it.
func isSorted(amounts []api.Amount) bool {
	for i, amount := range amounts {
		if !isCode(amount.Code) || i > 0 && classification.Compare(amounts[i-1].Code, amount.Code) >= 0 {
			return false
		}
	}
	return true
}

// Compose returns the concordance through both.
func Compose(first, second []api.Link) ([]api.Link, api.Errno) {
	for _, links := range [][]api.Link{first, second} {
		if e := checkSound(links); e != api.OK {
			return nil, e
		}
	}
	left, right := grouped(first), grouped(second)
	for _, link := range first {
		if len(right[link.To]) == 0 {
			return nil, api.ErrConcordanceMissing
		}
	}
	var composed []api.Link
	for _, from := range sortedCodes(left) {
		for _, part := range converted(right, sharesOf(left[from])) {
			composed = append(composed, api.Link{From: from, To: part.Code, Share: part.Value})
		}
		// Leaving here bounds the work, too.
		if len(composed) > api.MaxLinks {
			return nil, api.ErrConcordanceCount
		}
	}
	return composed, api.OK
}

// sharesOf returns what the links give to each To.
func sharesOf(links []api.Link) []api.Amount {
	var shares []api.Amount
	for _, link := range links {
		shares = append(shares, api.Amount{Code: link.To, Value: link.Share})
	}
	return shares
}

// Reverse returns the concordance backwards, with shares by the converted amounts.
func Reverse(links []api.Link, amounts []api.Amount) ([]api.Link, api.Errno) {
	if e := checkSound(links); e != api.OK {
		return nil, e
	}
	linked := grouped(links)
	if !areWeights(amounts, sortedCodes(linked)) {
		return nil, api.ErrConcordanceAmounts
	}
	parts := partsOf(linked, amounts)
	sums := totals(parts, target)
	var reversed []api.Link
	for _, part := range parts {
		share, e := rational.Quo(part.Share, sums[part.To])
		if e != api.OK {
			return nil, api.ErrConcordanceZero
		}
		if rational.Sign(share) > 0 {
			reversed = append(reversed, api.Link{From: part.To, To: part.From, Share: share})
		}
	}
	slices.SortFunc(reversed, compareLinks)
	return reversed, api.OK
}

// areWeights reports whether the amounts have exactly these codes, and no negative value.
func areWeights(amounts []api.Amount, codes []string) bool {
	return slices.EqualFunc(amounts, codes, func(amount api.Amount, code string) bool {
		return amount.Code == code && rational.Sign(amount.Value) >= 0
	})
}
