// Package digits writes numbers in decimal digits, reads them, and finds what divides two.
package digits

import (
	"girdle/api"
	"girdle/limbs"
)

// MaxDigits is how many decimal digits a number's text has at most.
const MaxDigits = 4900

// A number is written and read in blocks of digits: 18 of them always have room in 64 bits.
const (
	blockDigits = 18
	blockBase   = 1_000_000_000_000_000_000
)

// blockBits is how many bits of a number go into a block for certain.
const blockBits = 59

// Text: a number's digits.
func Text(a api.Nat) string {
	// What can't be a number may be of any size: its digits aren't given room.
	if limbs.Check(a) == api.ErrLimbs {
		return ""
	}
	base := limbs.Of(blockBase)
	text := make([]byte, (limbs.Bits(a)/blockBits+1)*blockDigits)
	for i := range len(text) / blockDigits {
		var low api.Nat
		a, low, _ = limbs.Div(a, base)
		end := len(text) - i*blockDigits
		writeBlock(text[end-blockDigits:end], low)
	}
	return withoutNoughts(text)
}

// writeBlock fills a block with a number's digits, and noughts ahead of them.
func writeBlock(block []byte, a api.Nat) {
	n, _ := limbs.Small(a)
	for i := range len(block) {
		block[len(block)-1-i] = byte('0' + n%10)
		n /= 10
	}
}

// withoutNoughts leaves out the noughts ahead, but for a last one.
func withoutNoughts(text []byte) string {
	from := 0
	for from < len(text)-1 && text[from] == '0' {
		from++
	}
	return string(text[from:])
}

// Parse: the number of digits; ErrForm: they are none; ErrLong: there are too many.
func Parse(s string) (api.Nat, api.Errno) {
	switch {
	case !onlyDigits(s):
		return nil, api.ErrForm
	case len(s) > MaxDigits:
		return nil, api.ErrLong
	}
	head := len(s) % blockDigits
	a := limbs.Of(readBlock(s[:head]))
	for i := range len(s) / blockDigits {
		from := head + i*blockDigits
		var e api.Errno
		if a, e = behind(a, readBlock(s[from:from+blockDigits])); e != api.OK {
			return nil, e
		}
	}
	return a, api.OK
}

// onlyDigits: is each sign of a text a digit, and is there one?
func onlyDigits(s string) bool {
	for _, r := range s {
		if r < '0' || r > '9' {
			return false
		}
	}
	return s != ""
}

// readBlock is the number of a block's digits.
func readBlock(s string) uint64 {
	var n uint64
	for _, r := range s {
		n = n*10 + uint64(r-'0')
	}
	return n
}

// behind is the number with one block more behind its digits.
func behind(a api.Nat, block uint64) (api.Nat, api.Errno) {
	a, e := limbs.Mul(a, limbs.Of(blockBase))
	if e != api.OK {
		return nil, e
	}
	return limbs.Add(a, limbs.Of(block))
}

// Ten: 10 to the power of n.
func Ten(n int) (api.Nat, api.Errno) {
	if n < 0 {
		return nil, api.ErrRange
	}
	first := uint64(1)
	for range n % blockDigits {
		first *= 10
	}
	a := limbs.Of(first)
	for range n / blockDigits {
		// However great n is, the bound ends this after some hundreds of blocks.
		var e api.Errno
		if a, e = behind(a, 0); e != api.OK {
			return nil, e
		}
	}
	return a, api.OK
}

// Gcd: the greatest number that divides both; of 0 and 0 that.
func Gcd(a, b api.Nat) api.Nat {
	for limbs.Bits(b) > 0 {
		if x, y, small := bothSmall(a, b); small {
			return limbs.Of(gcdSmall(x, y))
		}
		_, left, e := limbs.Div(a, b)
		if e != api.OK {
			return nil
		}
		a, b = b, left
	}
	// What is left may be an argument: the answer is to be new memory.
	a, _ = limbs.Right(a, 0)
	return a
}

// bothSmall is two numbers as ones of 64 bits, if both have room in them.
func bothSmall(a, b api.Nat) (uint64, uint64, bool) {
	x, ex := limbs.Small(a)
	y, ey := limbs.Small(b)
	return x, y, ex == api.OK && ey == api.OK
}

// gcdSmall spares small numbers, which are most, the memory of each division.
func gcdSmall(x, y uint64) uint64 {
	for y > 0 {
		x, y = y, x%y
	}
	return x
}
