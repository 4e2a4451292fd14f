package vec

import (
	"slices"

	"girdle/api"
	"girdle/dyad"
	"girdle/span"
)

// Near: ratios as spans of so many bits.
func Near(a []api.Rat, bits int) ([]api.Span, api.Errno) {
	return placewise(a, func(x api.Rat) (api.Span, api.Errno) { return span.Near(x, bits) })
}

// Plus: spans, place by place together.
func Plus(a, b []api.Span, bits int) ([]api.Span, api.Errno) {
	return pairwise(a, b, func(x, y api.Span) (api.Span, api.Errno) { return span.Add(x, y, bits) })
}

// Times: each times a span.
func Times(a []api.Span, by api.Span, bits int) ([]api.Span, api.Errno) {
	return placewise(a, func(x api.Span) (api.Span, api.Errno) { return span.Mul(x, by, bits) })
}

// Inner: spans, place by place times each other, and all together.
func Inner(a, b []api.Span, bits int) (api.Span, api.Errno) {
	products, e := pairwise(a, b, func(x, y api.Span) (api.Span, api.Errno) { return span.Mul(x, y, bits) })
	if e != api.OK || len(products) == 0 {
		return api.Span{}, e
	}
	// The first product begins, not nothing: that and a great number have no room at one power of 2.
	sum := products[0]
	for _, x := range products[1:] {
		if sum, e = span.Add(sum, x, bits); e != api.OK {
			return api.Span{}, e
		}
	}
	return sum, api.OK
}

// Holds: do spans hold these ratios, place by place?
func Holds(a []api.Span, x []api.Rat) (bool, api.Errno) {
	held, e := pairwise(a, x, span.HasRatio)
	return e == api.OK && !slices.Contains(held, false), e
}

// Norm: the greatest size of a number of some spans.
func Norm(a []api.Span) api.Dyad {
	var most api.Dyad
	for _, x := range a {
		most = dyad.Max(most, span.Size(x))
	}
	return most
}
