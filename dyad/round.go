package dyad

import (
	"slices"

	"girdle/api"
	"girdle/limbs"
	"girdle/ratio"
	"girdle/whole"
)

// Round: the nearest number of so many bits that isn't above (up: isn't below) it.
func Round(a api.Dyad, bits int, up bool) (api.Dyad, api.Errno) {
	if !bitsWithin(bits) {
		return api.Dyad{}, api.ErrRange
	}
	over := limbs.Bits(a.Man.Size) - bits
	if over <= 0 {
		return copied(a), api.OK
	}
	man, e := whole.Right(a.Man, over)
	if e == api.OK && up {
		// Of an odd number something was cut off for certain.
		man, e = whole.Add(man, whole.Of(1))
	}
	return times(man, a.Exp+over, e)
}

// Ratio: the number as a ratio; ErrLimbs: there is no room.
func Ratio(a api.Dyad) (api.Rat, api.Errno) {
	if a.Exp >= 0 {
		num, e := whole.Left(a.Man, a.Exp)
		return ratio.Whole(num), e
	}
	den, e := limbs.Left(limbs.Of(1), -a.Exp)
	if e != api.OK {
		return ratio.Zero(), e
	}
	// An odd number and a power of 2 have no divisor in common.
	num := api.Int{Minus: a.Man.Minus, Size: slices.Clone(a.Man.Size)}
	return api.Rat{Num: num, Den: den}, api.OK
}

// Near: the nearest number of so many bits that isn't above (up: isn't below) a ratio.
func Near(a api.Rat, bits int, up bool) (api.Dyad, api.Errno) {
	switch {
	case !bitsWithin(bits):
		return api.Dyad{}, api.ErrRange
	case ratio.Sign(a) == 0:
		return api.Dyad{}, api.OK
	}
	// A power of 2 below goes into the exponent: what is itself a number then needs little room.
	tail := limbs.Tail(a.Den)
	den, e := whole.Right(whole.Nat(a.Den), tail)
	if e != api.OK {
		return api.Dyad{}, e
	}
	// So shifted, what stands above divided by what stands below has as many bits as are asked for, or one more.
	shift := bits + limbs.Bits(den.Size) - limbs.Bits(a.Num.Size)
	man, e := divided(a.Num, den, shift, up)
	near, e := times(man, -shift-tail, e)
	if e != api.OK {
		return api.Dyad{}, e
	}
	return Round(near, bits, up)
}

// divided is one number times 2 to the power of shift, which may be below 0, divided by another one above 0; rounded down, or up.
func divided(num, den api.Int, shift int, up bool) (api.Int, api.Errno) {
	var e api.Errno
	if shift < 0 {
		den, e = whole.Left(den, -shift)
	} else {
		num, e = whole.Left(num, shift)
	}
	if e != api.OK {
		return api.Int{}, e
	}
	often, left, e := whole.Div(num, den)
	if e == api.OK && up && whole.Sign(left) > 0 {
		often, e = whole.Add(often, whole.Of(1))
	}
	return often, e
}

// Cmp: how a number stands to a ratio: -1, 0 or 1; ErrLimbs: there is no room to tell.
func Cmp(a api.Dyad, b api.Rat) (int, api.Errno) {
	r, e := Ratio(a)
	if e != api.OK {
		return 0, e
	}
	return ratio.Compare(r, b)
}

// bitsWithin: may be rounded to so many bits?
func bitsWithin(bits int) bool { return bits >= MinBits && bits <= MaxBits }
