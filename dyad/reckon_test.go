package dyad_test

import (
	"cmp"
	"math/big"
	"testing"

	"girdle/api"
	"girdle/dyad"
)

// P5.2

// adds holds Add and Sub against the library's.
func adds(t *testing.T, x, y num) {
	t.Helper()
	exp := min(x.exp, y.exp)
	left, right := x.whole(exp), y.whole(exp)
	sum, less := new(big.Int).Add(left, right), new(big.Int).Sub(left, right)
	got, e := dyad.Add(x.dyad(), y.dyad())
	answers(t, "Add", got, e, num{sum, exp}, cmp.Or(room(left, right, sum), within(num{sum, exp})))
	got, e = dyad.Sub(x.dyad(), y.dyad())
	answers(t, "Sub", got, e, num{less, exp}, cmp.Or(room(left, right, less), within(num{less, exp})))
}

// multiplies holds Mul against the library's.
func multiplies(t *testing.T, x, y num) {
	t.Helper()
	product := num{new(big.Int).Mul(x.man, y.man), x.exp + y.exp}
	got, e := dyad.Mul(x.dyad(), y.dyad())
	answers(t, "Mul", got, e, product, cmp.Or(room(product.man), within(product)))
}

// compares holds Compare, and what hangs on it, against the library's.
func compares(t *testing.T, x, y num) {
	t.Helper()
	a, b, want := x.dyad(), y.dyad(), x.holds(y)
	if got := dyad.Compare(a, b); got != want {
		t.Fatalf("%.60x times 2^%d and %.60x times 2^%d: %d", x.man, x.exp, y.man, y.exp, got)
	}
	if got := dyad.Less(a, b); got != (want < 0) {
		t.Fatalf("Less of %.60x times 2^%d and %.60x times 2^%d: %t", x.man, x.exp, y.man, y.exp, got)
	}
	greater, lesser := x, y
	if want < 0 {
		greater, lesser = y, x
	}
	same(t, "Max", dyad.Max(a, b), greater)
	same(t, "Min", dyad.Min(a, b), lesser)
}

func TestReckoning(t *testing.T) {
	for _, list := range [][]num{small(), great()} {
		for _, x := range list {
			x = x.odd()
			for _, y := range list {
				y = y.odd()
				adds(t, x, y)
				multiplies(t, x, y)
				compares(t, x, y)
			}
		}
	}
}

// TestOneDigitTooMany is of numbers that have just room, or not, at the lesser power of 2.
func TestOneDigitTooMany(t *testing.T) {
	most := num{power(limbBits, -1), 0}
	for _, x := range []struct {
		a, b num
		want api.Errno
	}{
		{n(1, limbBits-1), n(1, 0), api.OK},
		{n(1, limbBits), n(1, 0), api.ErrLimbs},
		{n(1, 40000), n(1, 40000-limbBits), api.ErrLimbs},
		{n(1, 40000), n(1, 40001-limbBits), api.OK},
		{n(1, limbBits), n(-1, 0), api.ErrLimbs}, // even if what comes of it has room
		{n(1, limbBits), n(0, 0), api.ErrLimbs},  // 0 is at the power 0
		{n(1, limbBits-1), n(0, 0), api.OK},
		{n(1, -maxExp), n(0, 0), api.OK},
		{most, n(1, 0), api.ErrLimbs},
		{most, n(-1, 0), api.OK},
		{most, n(1, -1), api.ErrLimbs},
		{most, n(0, 0), api.OK},
		{num{most.man, maxExp}, num{most.man, maxExp}.neg(), api.OK},
	} {
		exp := min(x.a.exp, x.b.exp)
		sum := num{new(big.Int).Add(x.a.whole(exp), x.b.whole(exp)), exp}
		got, e := dyad.Add(x.a.dyad(), x.b.dyad())
		answers(t, "Add", got, e, sum, x.want)
		got, e = dyad.Add(x.b.dyad(), x.a.dyad())
		answers(t, "Add the other way round", got, e, sum, x.want)
		got, e = dyad.Sub(x.a.dyad(), x.b.neg().dyad())
		answers(t, "Sub", got, e, sum, x.want)
		got, e = dyad.Sub(x.b.dyad(), x.a.neg().dyad())
		answers(t, "Sub the other way round", got, e, sum, x.want)
	}
}

// TestMakesError is of what comes of two numbers beyond the exponents' bounds.
func TestMakesError(t *testing.T) {
	one, most := dyad.Of(1, 0), num{power(limbBits, -1), maxExp}
	high, low := n(1, maxExp).dyad(), n(1, -maxExp).dyad()
	got, e := dyad.Add(high, high)
	answers(t, "Add", got, e, n(0, 0), api.ErrRange)
	got, e = dyad.Sub(high, dyad.Neg(high))
	answers(t, "Sub", got, e, n(0, 0), api.ErrRange)
	got, e = dyad.Add(low, low)
	answers(t, "Add", got, e, n(1, 1-maxExp), api.OK)
	got, e = dyad.Sub(high, high)
	answers(t, "Sub to nothing", got, e, n(0, 0), api.OK)
	got, e = dyad.Mul(high, dyad.Of(1, 1))
	answers(t, "Mul", got, e, n(0, 0), api.ErrRange)
	got, e = dyad.Mul(low, dyad.Of(-1, -1))
	answers(t, "Mul", got, e, n(0, 0), api.ErrRange)
	got, e = dyad.Mul(high, low)
	answers(t, "Mul", got, e, n(1, 0), api.OK)
	got, e = dyad.Mul(high, one)
	answers(t, "Mul", got, e, n(1, maxExp), api.OK)
	got, e = dyad.Mul(high, dyad.Of(0, 0))
	answers(t, "Mul by nothing", got, e, n(0, 0), api.OK)
	got, e = dyad.Mul(most.dyad(), most.dyad())
	answers(t, "too many digits are told of first", got, e, n(0, 0), api.ErrLimbs)
	got, e = dyad.Add(most.dyad(), most.dyad())
	answers(t, "too many digits are told of first", got, e, n(0, 0), api.ErrLimbs)
}

func TestSignNegAbs(t *testing.T) {
	for _, x := range append(small(), great()...) {
		a := x.dyad()
		if got := dyad.Sign(a); got != x.man.Sign() {
			t.Errorf("Sign of %.60x: %d", x.man, got)
		}
		same(t, "Neg", dyad.Neg(a), x.neg())
		same(t, "Abs", dyad.Abs(a), num{new(big.Int).Abs(x.man), x.exp})
	}
}

// TestCompareOfNeighbours is of numbers whose highest bits stand at one place, though one has many bits and the other one few.
func TestCompareOfNeighbours(t *testing.T) {
	list := []num{n(0, 0)}
	for _, low := range []int{-maxExp, -limbBits, 0, maxExp - limbBits + 1} {
		high := low + limbBits
		for _, x := range []num{{power(limbBits, -1), low}, {power(limbBits-1, 1), low}, n(1, high-1), n(3, high-2), {mixed(512, 8), low + 31}, {power(3000, -1), high - 3000}} {
			list = append(list, x, x.neg())
		}
	}
	for _, x := range list {
		for _, y := range list {
			compares(t, x, y)
		}
	}
}
