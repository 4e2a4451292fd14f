package span

import (
	"cmp"

	"girdle/api"
	"girdle/dyad"
)

// Add: all that two can come to together.
func Add(a, b api.Span, bits int) (api.Span, api.Errno) {
	lo, e := dyad.Add(a.Lo, b.Lo)
	hi, f := dyad.Add(a.Hi, b.Hi)
	if e = cmp.Or(e, f); e != api.OK {
		return api.Span{}, e
	}
	return Round(api.Span{Lo: lo, Hi: hi}, bits)
}

// Neg: the other way round.
func Neg(a api.Span) api.Span { return api.Span{Lo: dyad.Neg(a.Hi), Hi: dyad.Neg(a.Lo)} }

// Sub: all that one less the other can come to.
func Sub(a, b api.Span, bits int) (api.Span, api.Errno) { return Add(a, Neg(b), bits) }

// Mul: all that one times the other can come to.
func Mul(a, b api.Span, bits int) (api.Span, api.Errno) {
	// Whatever the signs are, the least and the greatest product are of ends.
	var products [4]api.Dyad
	for i, x := range ends(a) {
		for j, y := range ends(b) {
			var e api.Errno
			if products[2*i+j], e = dyad.Mul(x, y); e != api.OK {
				return api.Span{}, e
			}
		}
	}
	lo, hi := products[0], products[0]
	for _, x := range products[1:] {
		lo, hi = dyad.Min(lo, x), dyad.Max(hi, x)
	}
	return Round(api.Span{Lo: lo, Hi: hi}, bits)
}

// Sum: all that some can come to together.
func Sum(bits int, list ...api.Span) (api.Span, api.Errno) {
	var sum api.Span
	for _, a := range list {
		var e api.Errno
		if sum, e = Add(sum, a, bits); e != api.OK {
			return api.Span{}, e
		}
	}
	return sum, api.OK
}
