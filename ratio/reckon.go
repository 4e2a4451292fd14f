package ratio

import (
	"cmp"

	"girdle/api"
	"girdle/whole"
)

// Add: both together.
func Add(a, b api.Rat) (api.Rat, api.Errno) {
	x, y, e := crosswise(a, b)
	if e != api.OK {
		return Zero(), e
	}
	num, e := whole.Add(x, y)
	den, f := whole.Mul(whole.Nat(a.Den), whole.Nat(b.Den))
	return over(num, den, cmp.Or(e, f))
}

// Sub: the first one less the second one.
func Sub(a, b api.Rat) (api.Rat, api.Errno) { return Add(a, Neg(b)) }

// Mul: one times the other.
func Mul(a, b api.Rat) (api.Rat, api.Errno) {
	num, e := whole.Mul(a.Num, b.Num)
	den, f := whole.Mul(whole.Nat(a.Den), whole.Nat(b.Den))
	return over(num, den, cmp.Or(e, f))
}

// Div: one divided by the other; ErrZero: by nothing.
func Div(a, b api.Rat) (api.Rat, api.Errno) {
	if Sign(b) == 0 {
		return Zero(), api.ErrZero
	}
	return over(crosswise(a, b))
}

// Sum: all together.
func Sum(list ...api.Rat) (api.Rat, api.Errno) {
	sum := Zero()
	for _, a := range list {
		var e api.Errno
		if sum, e = Add(sum, a); e != api.OK {
			return Zero(), e
		}
	}
	return sum, api.OK
}

// crosswise is what stands above in each, times what stands below in the other one.
func crosswise(a, b api.Rat) (api.Int, api.Int, api.Errno) {
	x, e := whole.Mul(a.Num, whole.Nat(b.Den))
	y, f := whole.Mul(b.Num, whole.Nat(a.Den))
	return x, y, cmp.Or(e, f)
}

// over is the ratio of two products, if there is room for both.
func over(num, den api.Int, e api.Errno) (api.Rat, api.Errno) {
	if e != api.OK {
		return Zero(), e
	}
	return Make(num, den)
}
