package whole

import (
	"girdle/api"
	"girdle/limbs"
)

// Add: both together.
func Add(a, b api.Int) (api.Int, api.Errno) {
	if a.Minus == b.Minus {
		size, e := limbs.Add(a.Size, b.Size)
		return signed(a.Minus, size), e
	}
	if limbs.Compare(a.Size, b.Size) < 0 {
		a, b = b, a
	}
	size, e := limbs.Sub(a.Size, b.Size)
	return signed(a.Minus, size), e
}

// Sub: the first one less the second one.
func Sub(a, b api.Int) (api.Int, api.Errno) {
	return Add(a, signed(!b.Minus, b.Size))
}

// Mul: one times the other.
func Mul(a, b api.Int) (api.Int, api.Errno) {
	size, e := limbs.Mul(a.Size, b.Size)
	return signed(a.Minus != b.Minus, size), e
}

// Sum: all together.
func Sum(list ...api.Int) (api.Int, api.Errno) {
	var sum api.Int
	for _, a := range list {
		var e api.Errno
		if sum, e = Add(sum, a); e != api.OK {
			return api.Int{}, e
		}
	}
	return sum, api.OK
}

// Div: how often one goes into the other, and what is left: from 0 on, below the size of that by which is divided.
func Div(a, b api.Int) (api.Int, api.Int, api.Errno) {
	often, left, e := limbs.Div(a.Size, b.Size)
	if e == api.OK && a.Minus && limbs.Bits(left) > 0 {
		often, left, e = onceMore(often, left, b.Size)
	}
	if e != api.OK {
		return api.Int{}, api.Int{}, e
	}
	return signed(a.Minus != b.Minus, often), signed(false, left), api.OK
}

// onceMore takes away what is divided by once more than it goes into a size, as what is left is to be from 0 on below 0 too.
func onceMore(often, left, by api.Nat) (api.Nat, api.Nat, api.Errno) {
	often, e := limbs.Add(often, limbs.Of(1))
	if e != api.OK {
		return nil, nil, e
	}
	left, e = limbs.Sub(by, left)
	return often, left, e
}

// Left: times 2 to the power of n.
func Left(a api.Int, n int) (api.Int, api.Errno) {
	size, e := limbs.Left(a.Size, n)
	return signed(a.Minus, size), e
}

// Right: divided by 2 to the power of n, rounded down.
func Right(a api.Int, n int) (api.Int, api.Errno) {
	size, e := limbs.Right(a.Size, n)
	// Down is away from 0 below it: what was cut off counts there.
	if e == api.OK && Sign(a) < 0 && n > limbs.Tail(a.Size) {
		size, e = limbs.Add(size, limbs.Of(1))
	}
	return signed(a.Minus, size), e
}
