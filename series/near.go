package series

import (
	"cmp"

	"girdle/api"
	"girdle/dyad"
	"girdle/mat"
	"girdle/ratio"
	"girdle/span"
	"girdle/whole"
)

// halvings is how often a table times a time is to be halved to be at most a half, as its norm tells; ErrRange: too often.
func halvings(a [][]api.Rat, t api.Rat) (int, api.Errno) {
	most, e := rate(a, t)
	if e != api.OK {
		return 0, e
	}
	often := 0
	for dyad.Less(power(often-1), most) {
		if often++; often > MaxHalves {
			return 0, api.ErrRange
		}
	}
	return often, api.OK
}

// rate is no less than the norm of a table times a time, and no power of 2 lies between both.
func rate(a [][]api.Rat, t api.Rat) (api.Dyad, api.Errno) {
	norm, e := mat.Norm(a)
	exact, f := ratio.Mul(norm, t)
	most, g := dyad.Near(exact, dyad.MaxBits, true)
	if cmp.Or(e, f, g) == api.OK {
		return most, api.OK
	}
	// There is no room for the norm as a ratio, but in so many bits.
	return roughRate(a, t, dyad.MaxBits)
}

// roughRate is no less than the norm of a table times a time.
func roughRate(a [][]api.Rat, t api.Rat, bits int) (api.Dyad, api.Errno) {
	var most api.Dyad
	for _, row := range a {
		var sum api.Dyad
		for _, x := range row {
			s, e := near(x, bits)
			if e != api.OK {
				return api.Dyad{}, e
			}
			if sum, e = added(sum, span.Size(s), bits, true); e != api.OK {
				return api.Dyad{}, e
			}
		}
		most = dyad.Max(most, sum)
	}
	time, e := near(t, bits)
	if e != api.OK {
		return api.Dyad{}, e
	}
	return dyad.Mul(most, time.Hi)
}

// near is a span that holds a ratio, of one for which layer 6's Near has no room too.
func near(r api.Rat, bits int) (api.Span, api.Errno) {
	s, e := span.Near(r, bits)
	if e != api.ErrLimbs {
		return s, e
	}
	// Of numbers that are so long the first bits tell as much.
	num, e := first(whole.Abs(r.Num), bits)
	den, f := first(whole.Nat(r.Den), bits)
	if e = cmp.Or(e, f); e != api.OK {
		return api.Span{}, e
	}
	lo, e := quotient(num.Lo, den.Hi, bits, false)
	hi, f := quotient(num.Hi, den.Lo, bits, true)
	if e = cmp.Or(e, f); e != api.OK {
		return api.Span{}, e
	}
	size := api.Span{Lo: lo, Hi: hi}
	if ratio.Sign(r) < 0 {
		return span.Neg(size), api.OK
	}
	return size, api.OK
}

// first is a span of so many bits that holds a whole number.
func first(n api.Int, bits int) (api.Span, api.Errno) {
	a, e := dyad.Make(n, 0)
	if e != api.OK {
		return api.Span{}, e
	}
	return span.Round(span.Point(a), bits)
}

// quotient is one number divided by another one, rounded.
func quotient(num, den api.Dyad, bits int, up bool) (api.Dyad, api.Errno) {
	odd, e := ratio.Make(num.Man, den.Man)
	if e != api.OK {
		return api.Dyad{}, e
	}
	a, e := dyad.Near(odd, bits, up)
	if e != api.OK {
		return api.Dyad{}, e
	}
	return dyad.Mul(a, power(num.Exp-den.Exp))
}
