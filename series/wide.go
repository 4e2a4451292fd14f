package series

import (
	"girdle/api"
	"girdle/dyad"
	"girdle/limbs"
	"girdle/span"
	"girdle/whole"
)

// maxFall is how far below 1, in powers of 2, numbers of any bits may be so that their products may be.
const maxFall = dyad.MaxExp/2 - dyad.MaxBits

// times is layer 8's Times of square tables, but that numbers far apart are widened where layer 5 has no room for them.
func times(a, b [][]api.Span, bits int) ([][]api.Span, api.Errno) {
	table := make([][]api.Span, len(a))
	for i, row := range a {
		table[i] = make([]api.Span, len(row))
		for j := range row {
			var e api.Errno
			if table[i][j], e = inner(row, b, j, bits); e != api.OK {
				return nil, e
			}
		}
	}
	return table, api.OK
}

// inner is a row times a column of a table.
func inner(row []api.Span, b [][]api.Span, column, bits int) (api.Span, api.Errno) {
	var sum api.Span
	for k, x := range row {
		y := b[k][column]
		if isZero(x) || isZero(y) {
			continue
		}
		both, e := product(x, y, bits)
		if e != api.OK {
			return api.Span{}, e
		}
		if sum, e = together(sum, both, bits); e != api.OK {
			return api.Span{}, e
		}
	}
	return sum, api.OK
}

// plus is layer 8's Plus of square tables, likewise.
func plus(a, b [][]api.Span, bits int) ([][]api.Span, api.Errno) {
	table := make([][]api.Span, len(a))
	for i, row := range a {
		table[i] = make([]api.Span, len(row))
		for j, x := range row {
			var e api.Errno
			if table[i][j], e = together(x, b[i][j], bits); e != api.OK {
				return nil, e
			}
		}
	}
	return table, api.OK
}

// product is layer 6's Mul, likewise.
func product(a, b api.Span, bits int) (api.Span, api.Errno) {
	c, e := span.Mul(a, b, bits)
	if e == api.OK {
		return c, e
	}
	return span.Mul(widened(a), widened(b), bits)
}

// widened is a span without ends that are nearer to nothing than is good for products.
func widened(a api.Span) api.Span {
	return api.Span{Lo: dyad.Neg(lifted(dyad.Neg(a.Lo))), Hi: lifted(a.Hi)}
}

// lifted is a number, or a greater one that isn't so near to nothing.
func lifted(a api.Dyad) api.Dyad {
	least := power(-maxFall)
	switch {
	case !dyad.Less(dyad.Abs(a), least):
		return a
	case dyad.Sign(a) > 0:
		return least
	}
	return api.Dyad{}
}

// together is layer 6's Add, likewise.
func together(a, b api.Span, bits int) (api.Span, api.Errno) {
	lo, e := added(a.Lo, b.Lo, bits, false)
	if e != api.OK {
		return api.Span{}, e
	}
	hi, e := added(a.Hi, b.Hi, bits, true)
	if e != api.OK {
		return api.Span{}, e
	}
	return api.Span{Lo: lo, Hi: hi}, api.OK
}

// added is two numbers together, rounded; of numbers far apart the lesser one is told by less than the last of the greater one's bits.
func added(x, y api.Dyad, bits int, up bool) (api.Dyad, api.Errno) {
	if dyad.Less(dyad.Abs(x), dyad.Abs(y)) {
		x, y = y, x
	}
	if dyad.Sign(y) == 0 {
		return dyad.Round(x, bits, up)
	}
	sum, e := dyad.Add(x, y)
	if e == api.ErrLimbs {
		sum, e = x, api.OK
		if away := dyad.Sign(y) > 0; away == up {
			sum, e = dyad.Add(x, grain(x, bits, dyad.Sign(y)))
		}
	}
	if e != api.OK {
		return api.Dyad{}, e
	}
	return dyad.Round(sum, bits, up)
}

// grain is a power of 2, or that below 0, beyond the last of a number's bits.
func grain(a api.Dyad, bits, sign int) api.Dyad {
	// A number for which another one is so small is so great that this one may be.
	b, _ := dyad.Make(whole.Of(int64(sign)), a.Exp+limbs.Bits(a.Man.Size)-bits-2)
	return b
}

// isZero: is it 0 alone?
func isZero(a api.Span) bool { return dyad.Sign(a.Lo) == 0 && dyad.Sign(a.Hi) == 0 }
