package dyad

import (
	"cmp"

	"girdle/api"
	"girdle/whole"
)

// Add: both together.
func Add(a, b api.Dyad) (api.Dyad, api.Errno) {
	x, y, exp, e := aligned(a, b)
	if e != api.OK {
		return api.Dyad{}, e
	}
	sum, e := whole.Add(x, y)
	return times(sum, exp, e)
}

// Sub: the first one less the second one.
func Sub(a, b api.Dyad) (api.Dyad, api.Errno) { return Add(a, Neg(b)) }

// Mul: one times the other.
func Mul(a, b api.Dyad) (api.Dyad, api.Errno) {
	product, e := whole.Mul(a.Man, b.Man)
	return times(product, a.Exp+b.Exp, e)
}

// aligned is both as whole numbers times the lesser power of 2, and that power.
func aligned(a, b api.Dyad) (api.Int, api.Int, int, api.Errno) {
	exp := min(a.Exp, b.Exp)
	x, e := whole.Left(a.Man, a.Exp-exp)
	y, f := whole.Left(b.Man, b.Exp-exp)
	return x, y, exp, cmp.Or(e, f)
}

// times is a whole number that was reckoned, times 2 to the power of exp, if there was room for it.
func times(man api.Int, exp int, e api.Errno) (api.Dyad, api.Errno) {
	if e != api.OK {
		return api.Dyad{}, e
	}
	return Make(man, exp)
}
