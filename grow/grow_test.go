package grow_test

import (
	"math"
	"math/big"
	"slices"
	"strings"
	"testing"

	"girdle/api"
	"girdle/dyad"
	"girdle/grow"
	"girdle/limbs"
	"girdle/ratio"
	"girdle/span"
	"girdle/whole"
)

// The bounds as the document tells them.
const (
	limbBits = 32 * 512
	maxRate  = 32
	minBits  = 8
	maxBits  = 512
)

// rat is the ratio of a text.
func rat(text string) api.Rat {
	x, e := ratio.Parse(text)
	if e != api.OK {
		panic("a test's ratio is wrong")
	}
	return x
}

// table is a table of a text: ratios with blanks between, rows with ; behind each.
func table(text string) [][]api.Rat {
	rows := [][]api.Rat{}
	for text != "" {
		var row string
		row, text, _ = strings.Cut(text, ";")
		list := []api.Rat{}
		for _, word := range strings.Fields(row) {
			list = append(list, rat(word))
		}
		rows = append(rows, list)
	}
	return rows
}

// power is 2 to the power of n; below 0 that of one of its size.
func power(n int) api.Rat {
	size, e := limbs.Left(limbs.Of(1), max(n, -n))
	if e != api.OK {
		panic("a test's number is beyond the bounds")
	}
	if n < 0 {
		return api.Rat{Num: whole.Of(1), Den: size}
	}
	return ratio.Whole(whole.Nat(size))
}

// at is a number times 2 to the power of exp.
func at(n int64, exp int) api.Dyad {
	a, e := dyad.Make(whole.Of(n), exp)
	if e != api.OK {
		panic("a test's number is beyond the bounds")
	}
	return a
}

// near is a ratio that is more than another one by 2 to the power of n.
func near(r api.Rat, n int) api.Rat {
	x, e := ratio.Add(r, power(n))
	if e != api.OK {
		panic("a test's number is beyond the bounds")
	}
	return x
}

// long is an odd number of so many digits to the base 2^32 that looks like no other.
func long(digits int, seed uint64) api.Nat {
	list := make(api.Nat, digits)
	for i := range list {
		seed = seed*6364136223846793005 + 1442695040888963407
		list[i] = uint32(seed>>32) | 1
	}
	return list
}

// exact is in how many bits the truth is reckoned.
const exact = 3000

// natOf is a number of math/big.
func natOf(a api.Nat) *big.Int {
	n := new(big.Int)
	for i := len(a) - 1; i >= 0; i-- {
		n.Or(n.Lsh(n, 32), big.NewInt(int64(a[i])))
	}
	return n
}

// floatOf is a number as one of math/big, exactly.
func floatOf(a api.Dyad) *big.Float {
	x := new(big.Float).SetPrec(exact).SetInt(natOf(a.Man.Size))
	if a.Man.Minus {
		x.Neg(x)
	}
	return x.SetMantExp(x, a.Exp)
}

// float is a ratio from 0 on in as many bits as the truth is reckoned in.
func float(r api.Rat) *big.Float {
	x := new(big.Float).SetPrec(exact).SetInt(natOf(r.Num.Size))
	return x.Quo(x, new(big.Float).SetPrec(exact).SetInt(natOf(r.Den)))
}

// rest is what is left of the exponential's sum behind so many terms, divided by r as often; term by term, each by the one ahead of it.
func rest(r api.Rat, often int64) *big.Float {
	x, sum := float(r), new(big.Float).SetPrec(exact)
	term := new(big.Float).SetPrec(exact).SetInt64(1)
	for i := int64(2); i <= often; i++ {
		term.Quo(term, new(big.Float).SetInt64(i))
	}
	for i := often + 1; term.Sign() != 0 && term.MantExp(nil) > -exact; i++ {
		sum.Add(sum, term)
		term.Mul(term, x)
		term.Quo(term, new(big.Float).SetInt64(i))
	}
	return sum
}

// times is a number times another one.
func times(a, b *big.Float) *big.Float { return new(big.Float).SetPrec(exact).Mul(a, b) }

// rates is numbers of which it is asked.
func rates() []api.Rat {
	list := []api.Rat{ratio.Zero(), power(-1), power(-50), power(-3000), rat("1/3"), rat("1"), rat("0.999999"), rat("2"), rat("7/5"), rat("10"), rat("12345/678"), rat("31.9"), near(rat("31"), -900), rat("32")}
	seed := uint64(11)
	for range 20 {
		seed = seed*6364136223846793005 + 1442695040888963407
		list = append(list, ratio.Of(int64(seed>>20%1000), int64(seed>>40%1000)+32))
	}
	return list
}

// bitCounts is how many bits are asked for.
func bitCounts() []int { return []int{minBits, 9, 31, 60, 128, maxBits} }

// held tells whether a span is in its form, of no more bits than that, and holds what is true, but for the last of its bits narrowly.
func held(t *testing.T, what string, s api.Span, e api.Errno, want *big.Float, bits int) {
	t.Helper()
	if e != api.OK || span.Check(s) != api.OK || limbs.Bits(s.Lo.Man.Size) > bits || limbs.Bits(s.Hi.Man.Size) > bits {
		t.Fatalf("%s, %d bits: error %d, or not so many bits", what, bits, e)
	}
	off := new(big.Float).SetMantExp(want, 100-exact)
	low, high := new(big.Float).Sub(floatOf(s.Lo), off), new(big.Float).Add(floatOf(s.Hi), off)
	if low.Cmp(want) > 0 || high.Cmp(want) < 0 {
		t.Errorf("%s, %d bits: from %g to %g, not %g", what, bits, floatOf(s.Lo), floatOf(s.Hi), want)
	}
	if width := new(big.Float).Sub(floatOf(s.Hi), floatOf(s.Lo)); width.Cmp(new(big.Float).SetMantExp(want, 3-bits)) > 0 {
		t.Errorf("%s, %d bits: %g is held from %g to %g", what, bits, want, floatOf(s.Lo), floatOf(s.Hi))
	}
}

// above tells whether a number is in its form, of no more bits than that, and no less than what is true, and no more but for its last bits.
func above(t *testing.T, what string, d api.Dyad, e api.Errno, want *big.Float, bits int) {
	t.Helper()
	if e != api.OK || dyad.Check(d) != api.OK || limbs.Bits(d.Man.Size) > bits {
		t.Fatalf("%s, %d bits: error %d, or not so many bits", what, bits, e)
	}
	over := new(big.Float).SetPrec(exact).Sub(floatOf(d), want)
	off := new(big.Float).SetMantExp(want, 100-exact)
	if over.Cmp(off.Neg(off)) < 0 || over.Cmp(new(big.Float).SetMantExp(want, 2-bits)) > 0 {
		t.Errorf("%s, %d bits: %g, not %g", what, bits, floatOf(d), want)
	}
}

// P14.1

func TestExpOneTwo(t *testing.T) {
	for _, r := range rates() {
		exp, one, two := rest(r, 0), rest(r, 1), rest(r, 2)
		for _, bits := range bitCounts() {
			s, e := grow.Exp(r, bits)
			held(t, "Exp", s, e, exp, bits)
			s, e = grow.One(r, bits)
			held(t, "One", s, e, one, bits)
			s, e = grow.Two(r, bits)
			held(t, "Two", s, e, two, bits)
		}
	}
}

func TestExpOneTwoOfNothing(t *testing.T) {
	for _, bits := range bitCounts() {
		for what, x := range map[string]struct {
			call func(r api.Rat, bits int) (api.Span, api.Errno)
			want api.Dyad
		}{"Exp": {grow.Exp, at(1, 0)}, "One": {grow.One, at(1, 0)}, "Two": {grow.Two, at(1, -1)}} {
			s, e := x.call(ratio.Zero(), bits)
			if e != api.OK || dyad.Compare(s.Lo, x.want) != 0 || dyad.Compare(s.Hi, x.want) != 0 {
				t.Errorf("%s, %d bits: %s, error %d", what, bits, span.Text(s), e)
			}
		}
	}
}

// askings is all calls of one number, each with its span, or its number at both ends.
func askings() map[string]func(r api.Rat, bits int) (api.Span, api.Errno) {
	alone := func(call func(r api.Rat, bits int) (api.Dyad, api.Errno)) func(r api.Rat, bits int) (api.Span, api.Errno) {
		return func(r api.Rat, bits int) (api.Span, api.Errno) {
			d, e := call(r, bits)
			return api.Span{Lo: d, Hi: d}, e
		}
	}
	return map[string]func(r api.Rat, bits int) (api.Span, api.Errno){
		"Exp": grow.Exp, "One": grow.One, "Two": grow.Two, "Curve": alone(grow.Curve), "Rise": alone(grow.Rise),
	}
}

// isNothing tells whether a span is 0 alone, in its form.
func isNothing(s api.Span) bool {
	return len(s.Lo.Man.Size) == 0 && len(s.Hi.Man.Size) == 0 && !s.Lo.Man.Minus && !s.Hi.Man.Minus && s.Lo.Exp == 0 && s.Hi.Exp == 0
}

// TestErrors is of P14.1 and P14.2.
func TestErrors(t *testing.T) {
	most := ratio.Of(maxRate, 1)
	for what, call := range askings() {
		for i, x := range []struct {
			r    api.Rat
			bits int
			want api.Errno
		}{
			{rat("1"), 7, api.ErrRange}, {rat("1"), 513, api.ErrRange}, {rat("1"), 0, api.ErrRange}, {rat("1"), -60, api.ErrRange}, {rat("1"), math.MaxInt, api.ErrRange}, {rat("1"), math.MinInt, api.ErrRange}, {ratio.Zero(), 7, api.ErrRange},
			{rat("-1"), 60, api.ErrRange}, {ratio.Neg(power(-3000)), 60, api.ErrRange}, {rat("33"), 60, api.ErrRange}, {near(most, -3000), 60, api.ErrRange}, {power(limbBits - 1), 60, api.ErrRange}, {rat("-33"), 7, api.ErrRange}, {ratio.Neg(power(limbBits - 1)), 60, api.ErrRange},
			{most, 8, api.OK}, {most, 512, api.OK}, {ratio.Zero(), 60, api.OK}, {power(-3000), 60, api.OK}, {near(rat("31"), -3000), 60, api.OK},
		} {
			s, e := call(x.r, x.bits)
			if e != x.want || e != api.OK && !isNothing(s) {
				t.Errorf("%s, the call %d: %s, error %d, not %d", what, i, span.Text(s), e, x.want)
			}
		}
	}
}

// TestLongRatios is of numbers that have no room for a bit more.
func TestLongRatios(t *testing.T) {
	part := api.Rat{Num: whole.Of(1), Den: long(512, 1)}
	both, e := ratio.Make(whole.Nat(long(512, 2)), whole.Nat(long(512, 3)))
	if e != api.OK {
		t.Fatal("a test's ratio is wrong")
	}
	for _, r := range []api.Rat{part, both, power(1 - limbBits)} {
		for _, bits := range []int{8, 60} {
			s, e := grow.Exp(r, bits)
			held(t, "Exp of a long one", s, e, rest(r, 0), bits)
			s, e = grow.Two(r, bits)
			held(t, "Two of a long one", s, e, rest(r, 2), bits)
			d, e := grow.Rise(r, bits)
			above(t, "Rise of a long one", d, e, times(float(r), rest(r, 2)), bits)
		}
	}
}

// P14.2

func TestCurveRise(t *testing.T) {
	for _, r := range rates() {
		x, two := float(r), rest(r, 2)
		for _, bits := range bitCounts() {
			d, e := grow.Rise(r, bits)
			above(t, "Rise", d, e, times(x, two), bits)
			d, e = grow.Curve(r, bits)
			above(t, "Curve", d, e, times(x, times(x, two)), bits)
		}
	}
	for _, bits := range bitCounts() {
		for what, call := range map[string]func(r api.Rat, bits int) (api.Dyad, api.Errno){"Curve": grow.Curve, "Rise": grow.Rise} {
			if d, e := call(ratio.Zero(), bits); e != api.OK || !isNothing(api.Span{Lo: d}) {
				t.Errorf("%s of nothing: %v, error %d", what, d, e)
			}
		}
	}
}

func TestRate(t *testing.T) {
	over := [][]api.Rat{{{Num: whole.Of(1), Den: long(300, 1)}, {Num: whole.Of(1), Den: long(300, 2)}}}
	for i, x := range []struct {
		a    [][]api.Rat
		t    api.Rat
		want string
		e    api.Errno
	}{
		{table("2 -1;0 2;"), rat("1/2"), "3/2", api.OK}, {table("1/3 -1/2 1/7;"), rat("6/5"), "41/35", api.OK}, {table("0;-5;3;"), rat("1"), "5", api.OK}, {table("2 -1;0 2;"), rat("-1/2"), "-3/2", api.OK},
		{table("2 -1;0 2;"), rat("0"), "0", api.OK}, {nil, rat("9"), "0", api.OK}, {table(";;"), rat("9"), "0", api.OK}, {table("7;"), rat("1000000000000000000000"), "7000000000000000000000", api.OK},
		{table("1 2;3;"), rat("1"), "0", api.ErrShape}, {table("1 2;3;"), power(limbBits - 1), "0", api.ErrShape}, {over, rat("0"), "0", api.ErrLimbs}, {[][]api.Rat{{power(9000)}}, power(9000), "0", api.ErrLimbs}, {[][]api.Rat{{power(9000)}}, power(-9000), "1", api.OK},
	} {
		n, e := grow.Rate(x.a, x.t)
		if e != x.e || ratio.Text(n) != x.want || ratio.Check(n) != api.OK {
			t.Errorf("the table %d: %s, error %d, not %s, error %d", i, ratio.Text(n), e, x.want, x.e)
		}
	}
}

// P1

func TestNoCallPanics(t *testing.T) {
	over := slices.Repeat(api.Nat{math.MaxUint32}, 700)
	list := []api.Rat{
		{}, {Num: whole.Of(1)}, {Num: api.Int{Minus: true}}, {Num: whole.Of(6), Den: limbs.Of(4)}, {Num: whole.Of(3), Den: api.Nat{0}}, {Num: whole.Of(-3), Den: api.Nat{5, 0, 0}}, {Num: api.Int{Size: api.Nat{0, 0}}, Den: limbs.Of(1)},
		{Num: api.Int{Minus: true, Size: api.Nat{0, 7, 0}}, Den: limbs.Of(3)}, {Num: whole.Nat(over), Den: limbs.Of(1)}, {Num: whole.Of(1), Den: over}, {Num: whole.Nat(over), Den: over}, rat("3/2"), power(limbBits - 1), power(1 - limbBits),
	}
	for _, r := range list {
		for what, call := range askings() {
			for _, bits := range []int{math.MinInt, 7, 8, 60, 512, math.MaxInt} {
				if s, e := call(r, bits); e != api.OK && !isNothing(s) {
					t.Errorf("%s: %v beside error %d", what, s, e)
				}
			}
		}
		for _, x := range list {
			for _, a := range [][][]api.Rat{nil, {nil}, {nil, {x}}, {{x}}, {{x, x}, {r, rat("1/3")}}, slices.Repeat([][]api.Rat{{x, r}}, 40)} {
				grow.Rate(a, r)
			}
		}
	}
}
