package limbs

import (
	"math/bits"

	"girdle/api"
)

// Add: both together.
func Add(a, b api.Nat) (api.Nat, api.Errno) {
	a, b = trim(a), trim(b)
	if len(a) < len(b) {
		a, b = b, a
	}
	if len(a) > MaxLimbs {
		return nil, api.ErrLimbs
	}
	sum := make(api.Nat, len(a)+1)
	copy(sum, a)
	var carry uint32
	for i, d := range b {
		sum[i], carry = bits.Add32(a[i], d, carry)
	}
	for i := len(b); carry > 0; i++ {
		sum[i], carry = bits.Add32(sum[i], 0, carry)
	}
	return within(sum)
}

// Sub: the first one less the second one; ErrLess: that is greater.
func Sub(a, b api.Nat) (api.Nat, api.Errno) {
	a, b = trim(a), trim(b)
	if Compare(a, b) < 0 {
		return nil, api.ErrLess
	}
	left := make(api.Nat, len(a))
	copy(left, a)
	var borrow uint32
	for i, d := range b {
		left[i], borrow = bits.Sub32(a[i], d, borrow)
	}
	for i := len(b); borrow > 0; i++ {
		left[i], borrow = bits.Sub32(left[i], 0, borrow)
	}
	return within(left)
}

// Mul: one times the other.
func Mul(a, b api.Nat) (api.Nat, api.Errno) {
	a, b = trim(a), trim(b)
	if len(a) == 0 || len(b) == 0 {
		return nil, api.OK
	}
	// A product has as many digits as both, or one less: what is too great in either case needn't be reckoned.
	if len(a)+len(b)-1 > MaxLimbs {
		return nil, api.ErrLimbs
	}
	product := make(api.Nat, len(a)+len(b))
	for i, d := range a {
		product[i+len(b)] = addTimes(product[i:i+len(b)], b, d)
	}
	return within(product)
}

// addTimes adds d times b to as many digits; what is over is answered.
func addTimes(to, b api.Nat, d uint32) uint32 {
	var carry uint64
	for i := range b {
		// The greatest digit squared and two such digits more are just 2^64 - 1.
		t := uint64(d)*uint64(b[i]) + uint64(to[i]) + carry
		to[i], carry = uint32(t), t>>digitBits
	}
	return uint32(carry)
}

// Left: times 2 to the power of n.
func Left(a api.Nat, n int) (api.Nat, api.Errno) {
	a = trim(a)
	switch {
	case n < 0:
		return nil, api.ErrRange
	case len(a) == 0:
		return nil, api.OK
	case n > MaxLimbs*digitBits-Bits(a):
		return nil, api.ErrLimbs
	}
	out := make(api.Nat, n/digitBits+len(a)+1)
	shiftLeft(out[n/digitBits:], a, n%digitBits)
	return within(out)
}

// Right: divided by 2 to the power of n, rounded down.
func Right(a api.Nat, n int) (api.Nat, api.Errno) {
	a = trim(a)
	switch {
	case n < 0:
		return nil, api.ErrRange
	case n/digitBits >= len(a):
		return nil, api.OK
	}
	a = a[n/digitBits:]
	out := make(api.Nat, len(a))
	shiftRight(out, a, n%digitBits)
	return within(out)
}

// shiftLeft lays a, times 2 to the power of n, into out, which has one digit more; n is less than a digit's bits.
func shiftLeft(out, a api.Nat, n int) {
	var carry uint32
	for i, d := range a {
		t := uint64(d)<<n | uint64(carry)
		out[i], carry = uint32(t), uint32(t>>digitBits)
	}
	out[len(a)] = carry
}

// shiftRight lays a, divided by 2 to the power of n and rounded down, into out, which has as many digits; n is less than a digit's bits.
func shiftRight(out, a api.Nat, n int) {
	var above uint32
	for i, d := range down(a) {
		out[i] = uint32((uint64(above)<<digitBits | uint64(d)) >> n)
		above = d
	}
}
