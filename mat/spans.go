package mat

import (
	"slices"

	"girdle/api"
	"girdle/dyad"
	"girdle/span"
	"girdle/vec"
)

// Near: ratios as spans of so many bits.
func Near(a [][]api.Rat, bits int) ([][]api.Span, api.Errno) {
	return rowwise(a, func(row []api.Rat) ([]api.Span, api.Errno) { return vec.Near(row, bits) })
}

// Times: one table of spans times another one.
func Times(a, b [][]api.Span, bits int) ([][]api.Span, api.Errno) {
	return product(a, b, inner(bits))
}

// On: a table of spans times a list.
func On(a [][]api.Span, x []api.Span, bits int) ([]api.Span, api.Errno) {
	return image(a, x, inner(bits))
}

// Plus: both together.
func Plus(a, b [][]api.Span, bits int) ([][]api.Span, api.Errno) {
	return pairwise(a, b, func(x, y []api.Span) ([]api.Span, api.Errno) { return vec.Plus(x, y, bits) })
}

// Even: a square table of spans from a size below 0 to it.
func Even(n int, size api.Dyad) [][]api.Span {
	return filled(n, func(int) []api.Span {
		return filled(n, func(int) api.Span { return span.Even(size) })
	})
}

// Size: of spans, no less than the norm of any ratios that they hold, of so many bits.
func Size(a [][]api.Span, bits int) (api.Dyad, api.Errno) {
	sums, e := rowwise(a, func(row []api.Span) (api.Dyad, api.Errno) { return reach(row, bits) })
	if e != api.OK {
		return api.Dyad{}, e
	}
	var most api.Dyad
	for _, sum := range sums {
		most = dyad.Max(most, sum)
	}
	return most, api.OK
}

// Holds: do spans hold these ratios, place by place?
func Holds(a [][]api.Span, x [][]api.Rat) (bool, api.Errno) {
	held, e := pairwise(a, x, vec.Holds)
	return e == api.OK && !slices.Contains(held, false), e
}

// inner is layer 7's Inner, of so many bits.
func inner(bits int) func(x, y []api.Span) (api.Span, api.Errno) {
	return func(x, y []api.Span) (api.Span, api.Errno) { return vec.Inner(x, y, bits) }
}

// reach is the sizes of a row's spans together, each sum rounded upwards.
func reach(row []api.Span, bits int) (api.Dyad, api.Errno) {
	var sum api.Dyad
	var e api.Errno
	for i, x := range row {
		size := span.Size(x)
		// The first size begins, not nothing: that and a great number have no room at one power of 2.
		if i > 0 {
			if size, e = dyad.Add(sum, size); e != api.OK {
				return api.Dyad{}, e
			}
		}
		if sum, e = dyad.Round(size, bits, true); e != api.OK {
			return api.Dyad{}, e
		}
	}
	return sum, api.OK
}
