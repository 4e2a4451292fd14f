// Package limbs reckons with numbers from 0 on, of any size up to a bound.
package limbs

import (
	"cmp"
	"math/bits"

	"girdle/api"
)

// MaxLimbs is how many digits to the base 2^32 a number has at most.
const MaxLimbs = 512

// digitBits is how many bits a digit has.
const digitBits = 32

// Check: may a number be?
func Check(a api.Nat) api.Errno {
	switch {
	case len(a) > MaxLimbs:
		return api.ErrLimbs
	case len(a) > len(trim(a)):
		return api.ErrForm
	}
	return api.OK
}

// Of: a small number.
func Of(n uint64) api.Nat {
	return trim(api.Nat{uint32(n), uint32(n >> digitBits)})
}

// Small: the number as one of 64 bits; ErrLimbs: it is greater.
func Small(a api.Nat) (uint64, api.Errno) {
	a = trim(a)
	if len(a) > 2 {
		return 0, api.ErrLimbs
	}
	var n uint64
	for _, d := range down(a) {
		n = n<<digitBits | uint64(d)
	}
	return n, api.OK
}

// Compare: -1, 0 or 1.
func Compare(a, b api.Nat) int {
	a, b = trim(a), trim(b)
	if len(a) != len(b) {
		return cmp.Compare(len(a), len(b))
	}
	for i, d := range down(a) {
		if d != b[i] {
			return cmp.Compare(d, b[i])
		}
	}
	return 0
}

// Bits: how many bits a number has.
func Bits(a api.Nat) int {
	a = trim(a)
	if len(a) == 0 {
		return 0
	}
	last := len(a) - 1
	return last*digitBits + bits.Len32(a[last])
}

// Tail: how many noughts stand at the end of its bits; 0 of 0.
func Tail(a api.Nat) int {
	for i, d := range a {
		if d != 0 {
			return i*digitBits + bits.TrailingZeros32(d)
		}
	}
	return 0
}

// down goes through the digits from the last to the first, each with its place.
func down(a api.Nat) func(yield func(int, uint32) bool) {
	return func(yield func(int, uint32) bool) {
		for i := len(a) - 1; i >= 0; i-- {
			if !yield(i, a[i]) {
				return
			}
		}
	}
}

// trim is the digits without noughts at the end. Their room ends there too, so that an answer has none to spare.
func trim(a api.Nat) api.Nat {
	for i, d := range down(a) {
		if d != 0 {
			return a[: i+1 : i+1]
		}
	}
	return nil
}

// within is a call's answer, if it isn't too great.
func within(a api.Nat) (api.Nat, api.Errno) {
	a = trim(a)
	if len(a) > MaxLimbs {
		return nil, api.ErrLimbs
	}
	return a, api.OK
}
