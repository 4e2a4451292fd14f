package limbs

import (
	"math/bits"

	"girdle/api"
)

// Div: how often one goes into the other, and what is left; ErrZero: by nothing.
func Div(a, b api.Nat) (api.Nat, api.Nat, api.Errno) {
	a, b = trim(a), trim(b)
	switch {
	case len(b) == 0:
		return nil, nil, api.ErrZero
	case len(a) > MaxLimbs || len(b) > MaxLimbs:
		return nil, nil, api.ErrLimbs
	case Compare(a, b) < 0:
		left := make(api.Nat, len(a))
		copy(left, a)
		return nil, left, api.OK
	case len(b) == 1:
		often, left := divideByDigit(a, b[0])
		return often, left, api.OK
	}
	often, left := divideLong(a, b)
	return often, left, api.OK
}

// divideByDigit divides by a number of one digit.
func divideByDigit(a api.Nat, by uint32) (often, left api.Nat) {
	often = make(api.Nat, len(a))
	var rest uint32
	for i, d := range down(a) {
		often[i], rest = bits.Div32(rest, d, by)
	}
	return trim(often), Of(uint64(rest))
}

// divideLong divides digit by digit, as on paper, by a number of several digits that is no greater.
func divideLong(a, b api.Nat) (often, left api.Nat) {
	// With the divisor's highest bit set a guess is at most one too great.
	n := bits.LeadingZeros32(b[len(b)-1])
	by := make(api.Nat, len(b)+1)
	shiftLeft(by, b, n)
	by = by[:len(b)]
	rest := make(api.Nat, len(a)+1)
	shiftLeft(rest, a, n)
	often = make(api.Nat, len(a)-len(b)+1)
	for i := range down(often) {
		often[i] = divideStep(rest[i:i+len(by)+1], by)
	}
	left = make(api.Nat, len(b))
	shiftRight(left, rest[:len(b)], n)
	return trim(often), trim(left)
}

// divideStep takes a divisor off as often as it goes into what has one digit more, which is less than one digit's worth of it, and answers how often.
func divideStep(rest, by api.Nat) uint32 {
	q := guess(rest, by)
	if takeTimes(rest, by, q) {
		q--
		giveBack(rest, by)
	}
	return q
}

// guess is how often a divisor goes into what has one digit more, as far as the three highest digits tell: that often, or once too often.
func guess(rest, by api.Nat) uint32 {
	n := len(by)
	high, next := uint64(by[n-1]), uint64(by[n-2])
	top := uint64(rest[n])<<digitBits | uint64(rest[n-1])
	q, r := top/high, top%high
	for q>>digitBits > 0 || q*next > r<<digitBits|uint64(rest[n-2]) {
		q--
		r += high
		if r>>digitBits > 0 {
			break
		}
	}
	return uint32(q)
}

// takeTimes takes q times a divisor off; whether that was too much.
func takeTimes(rest, by api.Nat, q uint32) bool {
	var carry, borrow uint32
	for i, d := range by {
		t := uint64(q)*uint64(d) + uint64(carry)
		carry = uint32(t >> digitBits)
		rest[i], borrow = bits.Sub32(rest[i], uint32(t), borrow)
	}
	rest[len(by)], borrow = bits.Sub32(rest[len(by)], carry, borrow)
	return borrow > 0
}

// giveBack adds a divisor to what was taken off once too often.
func giveBack(rest, by api.Nat) {
	var carry uint32
	for i, d := range by {
		rest[i], carry = bits.Add32(rest[i], d, carry)
	}
	rest[len(by)] += carry
}
