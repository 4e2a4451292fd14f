package dyad_test

import (
	"math"
	"math/big"
	"testing"

	"girdle/api"
	"girdle/dyad"
	"girdle/ratio"
)

// toRat is a ratio as the library has it.
func toRat(a api.Rat) *big.Rat { return new(big.Rat).SetFrac(toBig(a.Num), natToBig(a.Den)) }

// ofRat is a ratio of the library's.
func ofRat(x *big.Rat) api.Rat { return api.Rat{Num: ofBig(x.Num()), Den: ofBig(x.Denom()).Size} }

// wrongBits is how many bits can't be rounded to.
func wrongBits() []int { return []int{math.MinInt, -3, -1, 0, 1, maxBits + 1, math.MaxInt} }

// P5.3

// rounded is a number rounded by the library's shift, which rounds down below 0 too.
func rounded(x num, bits int, up bool) num {
	over := x.man.BitLen() - bits
	switch {
	case over <= 0:
		return x
	case up:
		return rounded(x.neg(), bits, false).neg()
	}
	return num{new(big.Int).Rsh(x.man, uint(over)), x.exp + over}
}

func TestRound(t *testing.T) {
	for _, x := range append(small(), great()...) {
		x = x.odd()
		for _, bits := range []int{2, 3, 4, 5, 8, 31, 32, 33, 53, 63, 64, 65, 200, 4095, 4096} {
			for _, up := range []bool{false, true} {
				want := rounded(x, bits, up)
				got, e := dyad.Round(x.dyad(), bits, up)
				answers(t, "Round", got, e, want, within(want))
			}
		}
	}
}

func TestRoundOfSmallNumbers(t *testing.T) {
	for man := int64(-300); man <= 300; man++ {
		for bits := minBits; bits <= 10; bits++ {
			for _, up := range []bool{false, true} {
				got, e := dyad.Round(dyad.Of(man, -3), bits, up)
				answers(t, "Round", got, e, byCounting(man, bits, up), api.OK)
			}
		}
	}
}

// byCounting looks for the next number of so many bits, one by one.
func byCounting(man int64, bits int, up bool) num {
	step := int64(-1)
	if up {
		step = 1
	}
	for n(man, 0).odd().man.BitLen() > bits {
		man += step
	}
	return n(man, -3)
}

func TestRoundToWrongBits(t *testing.T) {
	for _, bits := range wrongBits() {
		for _, x := range []num{n(0, 0), n(1, 0), n(21, 0), {power(limbBits, -1), maxExp}} {
			got, e := dyad.Round(x.dyad(), bits, true)
			answers(t, "Round", got, e, n(0, 0), api.ErrRange)
		}
	}
}

func TestRoundBeyondTheBounds(t *testing.T) {
	for _, x := range []struct {
		a    num
		bits int
		up   bool
		want api.Errno
	}{
		{n(5, maxExp), 2, false, api.ErrRange},
		{n(5, maxExp), 2, true, api.ErrRange},
		{n(5, maxExp), 3, false, api.OK},
		{n(5, maxExp-1), 2, true, api.OK},
		{n(5, maxExp-2), 2, false, api.OK},
		{n(7, maxExp-2), 2, true, api.ErrRange},
		{n(-7, maxExp-3), 2, false, api.OK},
		{n(-7, maxExp-2), 2, false, api.ErrRange},
		{n(1, maxExp), 2, true, api.OK},
		{n(-5, -maxExp), 2, true, api.OK},
	} {
		want := rounded(x.a, x.bits, x.up)
		got, e := dyad.Round(x.a.dyad(), x.bits, x.up)
		answers(t, "Round", got, e, want, x.want)
	}
}

// P5.4

func TestRatio(t *testing.T) {
	for _, x := range append(small(), great()...) {
		x = x.odd()
		hasRatio(t, x, room(x.rat().Num(), x.rat().Denom()))
	}
	for exp, want := range map[int]api.Errno{limbBits - 1: api.OK, limbBits: api.ErrLimbs, 1 - limbBits: api.OK, -limbBits: api.ErrLimbs, maxExp: api.ErrLimbs, -maxExp: api.ErrLimbs} {
		hasRatio(t, n(1, exp), want)
		hasRatio(t, n(-1, exp), want)
	}
	hasRatio(t, num{power(limbBits-1, -1), 1}, api.OK)
	hasRatio(t, num{power(limbBits, -1), 1}, api.ErrLimbs)
}

// hasRatio holds Ratio against the library's.
func hasRatio(t *testing.T, x num, want api.Errno) {
	t.Helper()
	got, e := dyad.Ratio(x.dyad())
	if e != want || ratio.Check(got) != api.OK {
		t.Fatalf("Ratio of %.60x times 2^%d: error %d, not %d", x.man, x.exp, e, want)
	}
	if want != api.OK {
		x = n(0, 0)
	}
	if toRat(got).Cmp(x.rat()) != 0 {
		t.Fatalf("Ratio of %.60x times 2^%d: %.80s", x.man, x.exp, toRat(got))
	}
}

// last is one at the last bit of a number that isn't 0, if it has so many.
func last(x num, bits int) num { return n(1, x.exp+x.man.BitLen()-bits) }

// near tells whether Near answers what it may of a ratio.
func near(t *testing.T, x *big.Rat, bits int, up bool) {
	t.Helper()
	got, e := dyad.Near(ofRat(x), bits, up)
	if e != api.OK || !inForm(got) {
		t.Fatalf("Near of %.80s to %d bits: error %d", x, bits, e)
	}
	d := of(got)
	if d.rat().Cmp(x) == 0 {
		if d.man.BitLen() > bits {
			t.Fatalf("Near of %.80s to %d bits has more", x, bits)
		}
		return
	}
	if isNumber(x, bits) || d.man.Sign() == 0 || d.man.BitLen() > bits {
		t.Fatalf("Near of %.80s to %d bits: %.60x times 2^%d", x, bits, d.man, d.exp)
	}
	one, off := last(d, bits).rat(), new(big.Rat).Sub(x, d.rat())
	if up {
		off.Neg(off)
	}
	if off.Sign() < 0 || off.Cmp(one) >= 0 {
		t.Fatalf("Near of %.80s to %d bits (up %t): %.60x times 2^%d", x, bits, up, d.man, d.exp)
	}
}

// isNumber tells whether a ratio is itself a number of no more than so many bits.
func isNumber(x *big.Rat, bits int) bool {
	below := x.Denom()
	one := below.BitLen() == int(below.TrailingZeroBits())+1
	return one && (num{x.Num(), 0}).odd().man.BitLen() <= bits
}

func TestNear(t *testing.T) {
	mans := []*big.Int{big.NewInt(1), big.NewInt(2), big.NewInt(3), big.NewInt(7), big.NewInt(1000), big.NewInt(math.MaxInt64), power(32, 0), power(64, 1), power(500, -1), mixed(5, 1), mixed(20, 2), mixed(512, 3), power(limbBits, -1), power(limbBits-1, 0)}
	dens := []*big.Int{big.NewInt(1), big.NewInt(2), big.NewInt(3), big.NewInt(10), power(32, 0), power(40, 8), power(63, -1), mixed(4, 4), mixed(30, 5), mixed(300, 6), power(limbBits-1, 0)}
	for _, man := range mans {
		for _, den := range dens {
			for _, bits := range []int{2, 3, 4, 31, 32, 33, 53, 64, 100, 1000, 4095, 4096} {
				x := new(big.Rat).SetFrac(man, den)
				for _, up := range []bool{false, true} {
					near(t, x, bits, up)
					near(t, new(big.Rat).Neg(x), bits, up)
				}
			}
		}
	}
}

func TestNearOfSmallRatios(t *testing.T) {
	for above := int64(-40); above <= 40; above++ {
		for below := int64(1); below <= 40; below++ {
			for bits := minBits; bits <= 7; bits++ {
				if above != 0 {
					near(t, big.NewRat(above, below), bits, false)
					near(t, big.NewRat(above, below), bits, true)
				}
			}
		}
	}
}

func TestNearOfAThird(t *testing.T) {
	for _, x := range []struct {
		a    api.Rat
		up   bool
		want num
	}{{ratio.Of(1, 3), false, n(5, -4)}, {ratio.Of(1, 3), true, n(11, -5)}, {ratio.Of(-1, 3), false, n(-11, -5)}, {ratio.Of(-1, 3), true, n(-5, -4)}, {ratio.Of(1000, 1), false, n(15, 6)}, {ratio.Of(1000, 1), true, n(1, 10)}} {
		got, e := dyad.Near(x.a, 4, x.up)
		answers(t, "Near", got, e, x.want, api.OK)
	}
}

// TestNearOfANumber is of ratios that are numbers themselves, however little room there is.
func TestNearOfANumber(t *testing.T) {
	for _, x := range []num{n(0, 0), n(1, 0), n(3, -7), n(-3, 9), n(1, 1-limbBits), n(3, 1-limbBits), n(-3, limbBits-2), {power(limbBits-1, 0), 0}, {power(4096, -1), 1 - limbBits}, {power(4096, -1), limbBits - 4096}, {mixed(127, 7), -6000}, num{mixed(127, 7), 6000}.neg()} {
		for _, bits := range []int{x.odd().man.BitLen(), x.odd().man.BitLen() + 1, 4095, 4096} {
			if bits < minBits || bits > maxBits || bits < x.odd().man.BitLen() {
				continue
			}
			for _, up := range []bool{false, true} {
				got, e := dyad.Near(ofRat(x.rat()), bits, up)
				answers(t, "Near", got, e, x, api.OK)
			}
		}
	}
}

func TestNearToWrongBits(t *testing.T) {
	for _, bits := range wrongBits() {
		for _, a := range []api.Rat{ratio.Zero(), ratio.Of(1, 1), ratio.Of(-1, 3), ofRat(new(big.Rat).SetFrac(big.NewInt(1), power(limbBits, -1)))} {
			got, e := dyad.Near(a, bits, false)
			answers(t, "Near", got, e, n(0, 0), api.ErrRange)
		}
	}
	for _, bits := range []int{minBits, maxBits} {
		got, e := dyad.Near(ratio.Zero(), bits, true)
		answers(t, "Near of nothing", got, e, n(0, 0), api.OK)
	}
}

// TestNearWithoutRoom is of a ratio so small that it can't be divided to so many bits.
func TestNearWithoutRoom(t *testing.T) {
	for _, above := range []int64{1, -1} {
		a := ofRat(new(big.Rat).SetFrac(big.NewInt(above), power(limbBits, -1)))
		for _, up := range []bool{false, true} {
			got, e := dyad.Near(a, maxBits, up)
			answers(t, "Near", got, e, n(0, 0), api.ErrLimbs)
		}
	}
}

func TestCmp(t *testing.T) {
	rats := []*big.Rat{new(big.Rat)}
	for _, x := range []*big.Rat{big.NewRat(1, 1), big.NewRat(1, 3), big.NewRat(5, 4), big.NewRat(4, 3), big.NewRat(1, math.MaxInt64), big.NewRat(math.MaxInt64, 3), new(big.Rat).SetFrac(mixed(9, 1), mixed(4, 2)), new(big.Rat).SetInt(power(limbBits, -1)), new(big.Rat).SetFrac(big.NewInt(1), power(limbBits, -1))} {
		rats = append(rats, x, new(big.Rat).Neg(x))
	}
	list := append(small(), n(1, limbBits-1), n(1, limbBits), n(-1, 1-limbBits), n(1, -limbBits), n(3, maxExp), n(3, -maxExp))
	for _, x := range list {
		x = x.odd()
		for _, r := range append(rats, x.rat()) {
			cmps(t, x, r)
		}
	}
}

// cmps holds Cmp against the library's.
func cmps(t *testing.T, x num, r *big.Rat) {
	t.Helper()
	if r.Num().BitLen() > limbBits || r.Denom().BitLen() > limbBits {
		return
	}
	a := x.rat()
	left, right := new(big.Int).Mul(a.Num(), r.Denom()), new(big.Int).Mul(r.Num(), a.Denom())
	want, wantE := a.Cmp(r), room(a.Num(), a.Denom(), left, right)
	if wantE != api.OK {
		want = 0
	}
	if got, e := dyad.Cmp(x.dyad(), ofRat(r)); got != want || e != wantE {
		t.Fatalf("Cmp of %.60x times 2^%d and %.80s: %d, error %d", x.man, x.exp, r, got, e)
	}
}
