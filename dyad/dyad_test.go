package dyad_test

import (
	"encoding/binary"
	"math"
	"math/big"
	"slices"
	"testing"

	"girdle/api"
	"girdle/dyad"
)

// The bounds as the document tells them.
const (
	limbBits = 32 * 512
	maxExp   = 1 << 16
	minBits  = 2
	maxBits  = 4096
)

// natToBig is a size as the library has it.
func natToBig(a api.Nat) *big.Int {
	var bytes []byte
	for _, d := range slices.Backward(a) {
		bytes = binary.BigEndian.AppendUint32(bytes, d)
	}
	return new(big.Int).SetBytes(bytes)
}

// toBig is a whole number as the library has it.
func toBig(a api.Int) *big.Int {
	n := natToBig(a.Size)
	if a.Minus {
		n.Neg(n)
	}
	return n
}

// ofBig is a whole number of the library's.
func ofBig(n *big.Int) api.Int {
	bytes := n.FillBytes(make([]byte, (n.BitLen()+31)/32*4))
	a := api.Int{Minus: n.Sign() < 0}
	for ; len(bytes) > 0; bytes = bytes[:len(bytes)-4] {
		a.Size = append(a.Size, binary.BigEndian.Uint32(bytes[len(bytes)-4:]))
	}
	return a
}

// power is 2 to the power of n, and some more.
func power(n int, more int64) *big.Int {
	x := new(big.Int).Lsh(big.NewInt(1), uint(n))
	return x.Add(x, big.NewInt(more))
}

// mixed is an odd number of so many digits to the base 2^32 that looks like no other, the same in every run.
func mixed(n int, seed uint64) *big.Int {
	x := big.NewInt(1)
	for range n - 1 {
		seed = seed*6364136223846793005 + 1442695040888963407
		x.Lsh(x, 32).Or(x, big.NewInt(int64(seed>>32)))
	}
	return x.SetBit(x, 0, 1)
}

// num is a number as the library reckons with it: man times 2 to the power of exp.
type num struct {
	man *big.Int
	exp int
}

// n is a small number.
func n(man int64, exp int) num { return num{big.NewInt(man), exp} }

// odd is the same number with an odd one, or 0.
func (x num) odd() num {
	if x.man.Sign() == 0 {
		return n(0, 0)
	}
	tail := int(x.man.TrailingZeroBits())
	return num{new(big.Int).Rsh(x.man, uint(tail)), x.exp + tail}
}

// neg is the number the other way round.
func (x num) neg() num { return num{new(big.Int).Neg(x.man), x.exp} }

// whole is the number as a whole one times 2 to the power of exp, which is no more than its own.
func (x num) whole(exp int) *big.Int { return new(big.Int).Lsh(x.man, uint(x.exp-exp)) }

// rat is the number as the library's ratio.
func (x num) rat() *big.Rat {
	if x.exp >= 0 {
		return new(big.Rat).SetInt(x.whole(0))
	}
	return new(big.Rat).SetFrac(x.man, power(-x.exp, 0))
}

// dyad is the number as package api has it.
func (x num) dyad() api.Dyad {
	x = x.odd()
	return api.Dyad{Man: ofBig(x.man), Exp: x.exp}
}

// of is a number of package api's as the library reckons with it.
func of(a api.Dyad) num { return num{toBig(a.Man), a.Exp} }

// holds is -1, 0 or 1: whether x is less than y, the same, more.
func (x num) holds(y num) int {
	exp := min(x.exp, y.exp)
	return x.whole(exp).Cmp(y.whole(exp))
}

// within is ErrRange, if the number's exponent is beyond its bounds.
func within(x num) api.Errno {
	if e := x.odd().exp; e < -maxExp || e > maxExp {
		return api.ErrRange
	}
	return api.OK
}

// room is ErrLimbs, if one of some numbers has too many digits.
func room(list ...*big.Int) api.Errno {
	for _, n := range list {
		if n.BitLen() > limbBits {
			return api.ErrLimbs
		}
	}
	return api.OK
}

// inForm tells whether a number may be: an odd one within its bounds, or 0.
func inForm(a api.Dyad) bool {
	n := len(a.Man.Size)
	if n == 0 {
		return !a.Man.Minus && a.Exp == 0
	}
	return n <= 512 && a.Man.Size[n-1] != 0 && a.Man.Size[0]%2 == 1 && a.Exp >= -maxExp && a.Exp <= maxExp
}

// same tells whether an answer is that number, in its form.
func same(t *testing.T, what string, got api.Dyad, want num) {
	t.Helper()
	want = want.odd()
	if !inForm(got) || toBig(got.Man).Cmp(want.man) != 0 || got.Exp != want.exp {
		t.Fatalf("%s: %.60x times 2^%d, not %.60x times 2^%d", what, toBig(got.Man), got.Exp, want.man, want.exp)
	}
}

// answers tells whether a call's answer is that number, or, with that error, 0.
func answers(t *testing.T, what string, got api.Dyad, e api.Errno, want num, wantE api.Errno) {
	t.Helper()
	if e != wantE {
		t.Fatalf("%s: error %d, not %d", what, e, wantE)
	}
	if wantE != api.OK {
		want = n(0, 0)
	}
	same(t, what, got, want)
}

// small is numbers of few bits, near 1.
func small() []num {
	list := []num{n(0, 0)}
	for _, x := range []num{n(1, 0), n(3, 0), n(1, 1), n(1, -1), n(5, -2), n(21, 0), n(31, 3), n(1, 32), n(1, -32), n(math.MaxUint32, 0), n(math.MaxUint32, 1), n(math.MaxInt64, -40), {mixed(3, 1), -50}, {mixed(7, 2), -100}, {mixed(7, 3), 33}} {
		list = append(list, x, x.neg())
	}
	return list
}

// great is numbers at their bounds.
func great() []num {
	list := []num{n(0, 0)}
	for _, man := range []*big.Int{big.NewInt(1), big.NewInt(3), mixed(256, 4), power(limbBits/2, -1), power(limbBits/2, 1), mixed(512, 5), power(limbBits, -1), power(limbBits-1, 1)} {
		for _, exp := range []int{0, -maxExp, maxExp, -1, 1, 16383, -16384, maxExp / 2, -maxExp / 2} {
			list = append(list, num{man, exp}, num{man, exp}.neg())
		}
	}
	return list
}

// wrong is what can't be numbers.
func wrong() []api.Dyad {
	var list []api.Dyad
	sizes := []api.Nat{nil, {}, {0}, {0, 0}, {1, 0}, {6}, {0, 4}, {5}, slices.Repeat(api.Nat{3}, 513), slices.Repeat(api.Nat{2}, 600), slices.Repeat(api.Nat{0}, 2000)}
	for _, size := range sizes {
		for _, exp := range []int{0, 1, -1, maxExp, -maxExp, maxExp + 1, -maxExp - 1, math.MaxInt, math.MinInt} {
			for _, minus := range []bool{false, true} {
				list = append(list, api.Dyad{Man: api.Int{Minus: minus, Size: size}, Exp: exp})
			}
		}
	}
	return list
}

// P5.1

func TestMake(t *testing.T) {
	mans := []*big.Int{new(big.Int), big.NewInt(1), big.NewInt(2), big.NewInt(12), big.NewInt(7), big.NewInt(1 << 40), power(64, 0), power(100, -4), power(limbBits-1, 0), power(limbBits, -1), mixed(512, 6)}
	exps := []int{0, 1, -1, 3, 100, -101, 70000, -70000, math.MaxInt, math.MinInt, math.MaxInt - 2}
	for i := range 5 {
		exps = append(exps, maxExp-2+i, -maxExp-2+i)
	}
	exps = append(exps, maxExp-limbBits, maxExp-limbBits+1, maxExp-limbBits+2, maxExp-39, maxExp-40, -maxExp-40, -maxExp-39)
	for _, man := range mans {
		for _, exp := range exps {
			for _, m := range []*big.Int{man, new(big.Int).Neg(man)} {
				want := within(num{m, exp})
				if m.Sign() != 0 && (exp < -maxExp || exp > maxExp) {
					want = api.ErrRange
				}
				got, e := dyad.Make(ofBig(m), exp)
				answers(t, "Make", got, e, num{m, exp}, want)
			}
		}
	}
}

func TestMakeAtItsBounds(t *testing.T) {
	got, e := dyad.Make(api.Int{Size: slices.Repeat(api.Nat{3}, 513)}, 0)
	answers(t, "Make of too many digits", got, e, n(0, 0), api.ErrLimbs)
	// An exponent below its bound isn't mended by the noughts at the number's end.
	got, e = dyad.Make(ofBig(big.NewInt(4)), -maxExp-1)
	answers(t, "Make below", got, e, n(0, 0), api.ErrRange)
	got, e = dyad.Make(ofBig(big.NewInt(4)), -maxExp)
	answers(t, "Make at the bound", got, e, n(1, 2-maxExp), api.OK)
}

func TestOf(t *testing.T) {
	for _, man := range []int64{0, 1, -1, 2, -12, 1 << 40, math.MaxInt64, math.MinInt64} {
		for exp, held := range map[int]int{0: 0, 7: 7, -9: -9, 99: 99, 100: 100, 101: 100, -100: -100, -101: -100, 1000: 100, math.MaxInt: 100, math.MinInt: -100} {
			same(t, "Of", dyad.Of(man, exp), n(man, held))
		}
	}
}

func TestCheck(t *testing.T) {
	for _, x := range append(small(), great()...) {
		if e := dyad.Check(x.dyad()); e != api.OK {
			t.Errorf("%.60x times 2^%d: error %d", x.man, x.exp, e)
		}
	}
	man := func(size ...uint32) api.Int { return api.Int{Size: size} }
	below := func(size ...uint32) api.Int { return api.Int{Minus: true, Size: size} }
	long := api.Int{Size: slices.Repeat(api.Nat{3}, 513)}
	for i, x := range []struct {
		man  api.Int
		exp  int
		want api.Errno
	}{
		{man(), 0, api.OK},
		{man(), 1, api.ErrForm},
		{man(), -maxExp, api.ErrForm},
		{man(), maxExp + 1, api.ErrRange},
		{man(2), 0, api.ErrForm},
		{below(6), 5, api.ErrForm},
		{man(0, 1), 0, api.ErrForm},
		{man(1, 2), maxExp, api.OK},
		{below(1), -maxExp, api.OK},
		{man(1), maxExp + 1, api.ErrRange},
		{man(1), -maxExp - 1, api.ErrRange},
		{man(2), maxExp + 1, api.ErrRange}, // told of first
		{man(1), math.MaxInt, api.ErrRange},
		{man(1), math.MinInt, api.ErrRange},
		{below(), 0, api.ErrForm},
		{man(1, 0), 0, api.ErrForm},
		{man(0), 0, api.ErrForm},
		{man(1, 0), maxExp + 1, api.ErrForm}, // what layer 3 tells is told of first
		{long, 0, api.ErrLimbs},
		{long, maxExp + 1, api.ErrLimbs},
	} {
		if e := dyad.Check(api.Dyad{Man: x.man, Exp: x.exp}); e != x.want {
			t.Errorf("the number %d: error %d, not %d", i, e, x.want)
		}
	}
}

// P1

func TestNoCallPanics(t *testing.T) {
	list := append(wrong(), n(0, 0).dyad(), n(-3, 5).dyad(), num{power(limbBits, -1), maxExp}.dyad(), num{power(limbBits, -1), -maxExp}.dyad())
	rats := []api.Rat{{}, {Num: api.Int{Size: api.Nat{4}}}, {Num: api.Int{Size: api.Nat{4}}, Den: api.Nat{0, 0}}, {Num: api.Int{Minus: true}, Den: api.Nat{6, 0}}, {Num: api.Int{Minus: true, Size: api.Nat{1}}, Den: slices.Repeat(api.Nat{0}, 2000)}, {Num: api.Int{Size: slices.Repeat(api.Nat{3}, 600)}, Den: slices.Repeat(api.Nat{5}, 700)}, {Num: api.Int{Size: api.Nat{7}}, Den: slices.Repeat(api.Nat{0, 5}, 700)}, {Num: api.Int{Size: api.Nat{1}}, Den: api.Nat{3}}}
	bits := []int{math.MinInt, -1, 0, 1, minBits, 53, maxBits, maxBits + 1, math.MaxInt}
	for _, a := range list {
		size := slices.Clone(a.Man.Size)
		dyad.Make(a.Man, a.Exp)
		dyad.Check(a)
		dyad.Sign(a)
		dyad.Neg(a)
		dyad.Abs(a)
		dyad.Ratio(a)
		for _, b := range list {
			dyad.Add(a, b)
			dyad.Sub(a, b)
			dyad.Mul(a, b)
			dyad.Compare(a, b)
			dyad.Less(a, b)
			dyad.Max(a, b)
			dyad.Min(a, b)
		}
		for _, n := range bits {
			dyad.Round(a, n, false)
			dyad.Round(a, n, true)
		}
		for _, r := range rats {
			dyad.Cmp(a, r)
		}
		if !slices.Equal(a.Man.Size, size) {
			t.Error("what was handed in was changed")
		}
	}
	for _, r := range rats {
		for _, n := range bits {
			dyad.Near(r, n, false)
			dyad.Near(r, n, true)
		}
	}
}
