package ratio_test

import (
	"math"
	"math/big"
	"slices"
	"strings"
	"testing"

	"girdle/api"
	"girdle/ratio"
)

// The bounds as the document tells them.
const (
	maxLimbs  = 512
	maxBits   = 32 * maxLimbs
	maxDigits = 4900
	maxPlaces = 1000
)

// natToBig is a size as the library has it.
func natToBig(a api.Nat) *big.Int {
	n := new(big.Int)
	for _, d := range slices.Backward(a) {
		n.Lsh(n, 32).Or(n, big.NewInt(int64(d)))
	}
	return n
}

// toBig is a whole number as the library has it.
func toBig(a api.Int) *big.Int {
	n := natToBig(a.Size)
	if a.Minus {
		n.Neg(n)
	}
	return n
}

// ofBig is a whole number of the library's.
func ofBig(n *big.Int) api.Int {
	a := api.Int{Minus: n.Sign() < 0}
	low := big.NewInt(math.MaxUint32)
	for n = new(big.Int).Abs(n); n.Sign() > 0; n.Rsh(n, 32) {
		a.Size = append(a.Size, uint32(new(big.Int).And(n, low).Uint64()))
	}
	return a
}

// toRat is a ratio as the library has it.
func toRat(a api.Rat) *big.Rat { return new(big.Rat).SetFrac(toBig(a.Num), natToBig(a.Den)) }

// ofRat is a ratio of the library's.
func ofRat(x *big.Rat) api.Rat { return api.Rat{Num: ofBig(x.Num()), Den: ofBig(x.Denom()).Size} }

// power is 2 to the power of n, and some more.
func power(n int, more int64) *big.Int {
	x := new(big.Int).Lsh(big.NewInt(1), uint(n))
	return x.Add(x, big.NewInt(more))
}

// mixed is a number of so many digits to the base 2^32 that looks like no other, the same in every run.
func mixed(n int, seed uint64) *big.Int {
	x := big.NewInt(1)
	for range n - 1 {
		seed = seed*6364136223846793005 + 1442695040888963407
		x.Lsh(x, 32).Or(x, big.NewInt(int64(seed>>32)))
	}
	return x
}

// frac is one number over another one, and its other side of 0.
func frac(num, den *big.Int) []*big.Rat {
	x := new(big.Rat).SetFrac(num, den)
	return []*big.Rat{x, new(big.Rat).Neg(x)}
}

// small is ratios of few digits.
func small() []*big.Rat {
	list := []*big.Rat{new(big.Rat)}
	for _, x := range [][2]int64{{1, 1}, {2, 1}, {7, 1}, {1, 2}, {1, 3}, {2, 3}, {3, 4}, {5, 6}, {7, 2}, {355, 113}, {math.MaxInt64, 2}, {1, math.MaxInt64}, {1 << 40, 3 * 5 * 7 * 11}} {
		list = append(list, frac(big.NewInt(x[0]), big.NewInt(x[1]))...)
	}
	for i := range 4 {
		list = append(list, frac(mixed(i+2, 5), mixed(5-i, 9))...)
	}
	return list
}

// great is ratios whose products have just room, or not.
func great() []*big.Rat {
	one, half, most := big.NewInt(1), maxBits/2, power(maxBits, -1)
	var list []*big.Rat
	for _, x := range [][2]*big.Int{
		{most, one}, {one, most}, {power(maxBits-1, 0), one}, {one, power(maxBits-1, 0)}, {power(half, 0), one}, {one, power(half, 0)},
		{power(half, -1), one}, {one, power(half, -1)}, {power(half-1, 0), power(half, -1)}, {mixed(300, 1), big.NewInt(3)}, {big.NewInt(3), mixed(300, 1)},
		{mixed(200, 2), mixed(256, 3)}, {most, power(maxBits-1, 0)},
	} {
		list = append(list, frac(x[0], x[1])...)
	}
	return append(list, small()[:7]...)
}

// wrong is what can't be ratios.
func wrong() []api.Rat {
	long := slices.Repeat(api.Nat{3}, maxLimbs+1)
	var list []api.Rat
	for _, num := range []api.Int{{}, {Minus: true}, {Size: api.Nat{0}}, {Size: api.Nat{6}}, {Minus: true, Size: api.Nat{6, 0}}, {Size: long}, {Minus: true, Size: slices.Repeat(api.Nat{0}, 2000)}} {
		for _, den := range []api.Nat{nil, {}, {0}, {0, 0}, {2}, {9}, {1, 0}, long, slices.Repeat(api.Nat{0}, 2000)} {
			list = append(list, api.Rat{Num: num, Den: den})
		}
	}
	return list
}

// inForm tells whether a ratio may be, without a divisor in common.
func inForm(a api.Rat) bool {
	n, d := len(a.Num.Size), len(a.Den)
	if n > maxLimbs || d > maxLimbs || d == 0 || a.Den[d-1] == 0 || n > 0 && a.Num.Size[n-1] == 0 || n == 0 && a.Num.Minus {
		return false
	}
	return new(big.Int).GCD(nil, nil, natToBig(a.Num.Size), natToBig(a.Den)).Cmp(big.NewInt(1)) == 0
}

// same tells whether an answer is that ratio, in its form.
func same(t *testing.T, what string, got api.Rat, want *big.Rat) {
	t.Helper()
	if !inForm(got) || toRat(got).Cmp(want) != 0 {
		t.Fatalf("%s: %x over %x, not %.80s", what, toBig(got.Num), natToBig(got.Den), want)
	}
}

// answers tells whether a call's answer is that ratio, or, with that error, 0.
func answers(t *testing.T, what string, got api.Rat, e api.Errno, want *big.Rat, wantE api.Errno) {
	t.Helper()
	if e != wantE {
		t.Fatalf("%s: error %d, not %d", what, e, wantE)
	}
	if wantE != api.OK {
		want = new(big.Rat)
	}
	same(t, what, got, want)
}

// room is ErrLimbs, if one of some numbers has too many digits.
func room(list ...*big.Int) api.Errno {
	for _, n := range list {
		if n.BitLen() > maxBits {
			return api.ErrLimbs
		}
	}
	return api.OK
}

// mul is a product of the library's.
func mul(a, b *big.Int) *big.Int { return new(big.Int).Mul(a, b) }

// P4.1

func TestMake(t *testing.T) {
	list := []int64{0, 1, -1, 2, -2, 3, -4, 6, -6, 12, 35, -84, 1 << 40, math.MaxInt64, math.MinInt64}
	for _, num := range list {
		for _, den := range list {
			got, e := ratio.Make(ofBig(big.NewInt(num)), ofBig(big.NewInt(den)))
			if den == 0 {
				answers(t, "Make by nothing", got, e, nil, api.ErrZero)
				same(t, "Of by nothing", ratio.Of(num, den), new(big.Rat))
				continue
			}
			want := new(big.Rat).SetFrac(big.NewInt(num), big.NewInt(den))
			answers(t, "Make", got, e, want, api.OK)
			same(t, "Of", ratio.Of(num, den), want)
		}
	}
}

func TestMakeOfGreatNumbers(t *testing.T) {
	most, half := power(maxBits, -1), mixed(250, 1)
	for _, x := range [][2]*big.Int{
		{most, most}, {most, big.NewInt(1)}, {big.NewInt(-1), most}, {power(maxBits-1, 0), power(maxBits/2, 0)}, {mul(half, mixed(200, 2)), mul(half, mixed(100, 3))},
		{new(big.Int), most}, {mixed(512, 4), mixed(512, 5)}, {mixed(512, 4), new(big.Int).Neg(mul(half, half))},
	} {
		got, e := ratio.Make(ofBig(x[0]), ofBig(x[1]))
		answers(t, "Make", got, e, new(big.Rat).SetFrac(x[0], x[1]), api.OK)
		got, e = ratio.Make(ofBig(x[0]), api.Int{Size: api.Nat{}})
		answers(t, "Make by nothing", got, e, nil, api.ErrZero)
	}
}

func TestZeroAndWhole(t *testing.T) {
	same(t, "Zero", ratio.Zero(), new(big.Rat))
	same(t, "Whole of nothing", ratio.Whole(api.Int{Size: api.Nat{}}), new(big.Rat))
	for _, n := range []*big.Int{new(big.Int), big.NewInt(1), big.NewInt(-1), big.NewInt(12), power(32, 0), big.NewInt(math.MinInt64), power(maxBits, -1), new(big.Int).Neg(power(maxBits, -1))} {
		same(t, "Whole", ratio.Whole(ofBig(n)), new(big.Rat).SetInt(n))
	}
}

func TestCheck(t *testing.T) {
	for _, x := range append(small(), great()...) {
		if e := ratio.Check(ofRat(x)); e != api.OK {
			t.Errorf("%.80s: error %d", x, e)
		}
	}
	num := func(size ...uint32) api.Int { return api.Int{Size: size} }
	below := func(size ...uint32) api.Int { return api.Int{Minus: true, Size: size} }
	long, noughts := slices.Repeat(api.Nat{3}, maxLimbs+1), make(api.Nat, maxLimbs+1)
	for i, x := range []struct {
		num  api.Int
		den  api.Nat
		want api.Errno
	}{
		{num(), api.Nat{1}, api.OK},
		{num(), nil, api.ErrForm},
		{num(), api.Nat{2}, api.ErrForm},
		{num(1), nil, api.ErrForm},
		{num(1), api.Nat{}, api.ErrForm},
		{num(5), nil, api.ErrForm},
		{num(2), api.Nat{4}, api.ErrForm},
		{below(6), api.Nat{9}, api.ErrForm},
		{below(6), api.Nat{35}, api.OK},
		{num(0, 1), api.Nat{0, 0, 1}, api.ErrForm},
		{num(0, 1), api.Nat{1, 0, 1}, api.OK},
		{num(0, 3), api.Nat{0, 0, 9}, api.ErrForm},
		{below(), api.Nat{1}, api.ErrForm},
		{num(0), api.Nat{1}, api.ErrForm},
		{num(1, 0), api.Nat{1}, api.ErrForm},
		{num(1), api.Nat{0}, api.ErrForm},
		{num(1), api.Nat{1, 0}, api.ErrForm},
		{api.Int{Size: long}, api.Nat{1}, api.ErrLimbs},
		{num(1), long, api.ErrLimbs},
		{num(1), noughts, api.ErrLimbs},
		{below(), long, api.ErrForm}, // what stands above is told of first
		{num(1, 0), long, api.ErrForm},
		{api.Int{Size: long}, api.Nat{0}, api.ErrLimbs},
		{api.Int{Size: slices.Repeat(api.Nat{3}, maxLimbs)}, slices.Repeat(api.Nat{3}, maxLimbs), api.ErrForm},
	} {
		if e := ratio.Check(api.Rat{Num: x.num, Den: x.den}); e != x.want {
			t.Errorf("the ratio %d: error %d, not %d", i, e, x.want)
		}
	}
}

// P4.2

// reckons holds all that is reckoned of two ratios against the library's.
func reckons(t *testing.T, x, y *big.Rat) {
	t.Helper()
	a, b := ofRat(x), ofRat(y)
	left, right := mul(x.Num(), y.Denom()), mul(y.Num(), x.Denom())
	above, below := mul(x.Num(), y.Num()), mul(x.Denom(), y.Denom())
	got, e := ratio.Add(a, b)
	answers(t, "Add", got, e, new(big.Rat).Add(x, y), room(left, right, below, new(big.Int).Add(left, right)))
	got, e = ratio.Sub(a, b)
	answers(t, "Sub", got, e, new(big.Rat).Sub(x, y), room(left, right, below, new(big.Int).Sub(left, right)))
	got, e = ratio.Mul(a, b)
	answers(t, "Mul", got, e, new(big.Rat).Mul(x, y), room(above, below))
	got, e = ratio.Div(a, b)
	if y.Sign() == 0 {
		answers(t, "Div by nothing", got, e, nil, api.ErrZero)
	} else {
		answers(t, "Div", got, e, new(big.Rat).Quo(x, y), room(left, right))
	}
	compares(t, x, y, room(left, right))
}

// compares holds Compare against the library's.
func compares(t *testing.T, x, y *big.Rat, wantE api.Errno) {
	t.Helper()
	want := x.Cmp(y)
	if wantE != api.OK {
		want = 0
	}
	if got, e := ratio.Compare(ofRat(x), ofRat(y)); got != want || e != wantE {
		t.Fatalf("%.80s and %.80s: %d, error %d", x, y, got, e)
	}
}

func TestReckoning(t *testing.T) {
	for _, list := range [][]*big.Rat{small(), great()} {
		for _, x := range list {
			for _, y := range list {
				reckons(t, x, y)
			}
		}
	}
}

func TestReckoningAtTheBound(t *testing.T) {
	one, two := big.NewInt(1), big.NewInt(2)
	most, half := power(maxBits, -1), power(maxBits/2, 0)
	whole, over := new(big.Rat).SetInt(most), new(big.Rat).SetFrac(one, most)
	add := func(x, y *big.Rat, want api.Errno) {
		t.Helper()
		got, e := ratio.Add(ofRat(x), ofRat(y))
		answers(t, "Add", got, e, new(big.Rat).Add(x, y), want)
		got, e = ratio.Sub(ofRat(x), ofRat(new(big.Rat).Neg(y)))
		answers(t, "Sub", got, e, new(big.Rat).Add(x, y), want)
	}
	add(whole, new(big.Rat), api.OK)
	add(whole, big.NewRat(-1, 1), api.OK)
	add(whole, big.NewRat(1, 1), api.ErrLimbs)                                            // the sum of crosswise products
	add(whole, big.NewRat(1, 2), api.ErrLimbs)                                            // a crosswise product
	add(new(big.Rat).SetFrac(one, half), new(big.Rat).SetFrac(one, half), api.ErrLimbs)   // what stands below
	add(new(big.Rat).SetFrac(one, half), new(big.Rat).SetFrac(two, power(9, 1)), api.OK)  // has room
	add(new(big.Rat).SetFrac(most, two), big.NewRat(1, 2), api.ErrLimbs)                  // even if in lowest terms there were
	add(new(big.Rat).SetFrac(half, power(9, 1)), new(big.Rat).SetFrac(half, two), api.OK) // two great ones
	add(new(big.Rat).SetFrac(one, most), new(big.Rat).SetFrac(one, power(9, 1)), api.ErrLimbs)
	got, e := ratio.Mul(ofRat(whole), ofRat(over))
	answers(t, "Mul", got, e, big.NewRat(1, 1), api.OK)
	got, e = ratio.Mul(ofRat(whole), ofRat(big.NewRat(2, 3)))
	answers(t, "Mul of too much above", got, e, nil, api.ErrLimbs)
	got, e = ratio.Mul(ofRat(over), ofRat(big.NewRat(-1, 2)))
	answers(t, "Mul of too much below", got, e, nil, api.ErrLimbs)
	got, e = ratio.Div(ofRat(whole), ofRat(whole))
	answers(t, "Div", got, e, big.NewRat(1, 1), api.OK)
	got, e = ratio.Div(ofRat(whole), ofRat(over))
	answers(t, "Div of too much above", got, e, nil, api.ErrLimbs)
	got, e = ratio.Div(ofRat(over), ofRat(whole))
	answers(t, "Div of too much below", got, e, nil, api.ErrLimbs)
	got, e = ratio.Div(ofRat(whole), ratio.Zero())
	answers(t, "Div by nothing", got, e, nil, api.ErrZero)
}

func TestSum(t *testing.T) {
	got, e := ratio.Sum()
	answers(t, "Sum of none", got, e, new(big.Rat), api.OK)
	sum := new(big.Rat)
	var list []api.Rat
	for _, x := range small() {
		got, e = ratio.Sum(ofRat(x))
		answers(t, "Sum of one", got, e, x, api.OK)
		list = append(list, ofRat(x))
		sum.Add(sum, x)
		got, e = ratio.Sum(list...)
		answers(t, "Sum", got, e, sum, api.OK)
	}
	most, one, less := ofRat(new(big.Rat).SetInt(power(maxBits, -1))), ratio.Of(1, 1), ratio.Of(-1, 1)
	got, e = ratio.Sum(most, less, one)
	answers(t, "room on the way", got, e, toRat(most), api.OK)
	for _, list := range [][]api.Rat{{most, one, less}, {one, most, less}, {one, most}, {less, one, one, most}} {
		got, e = ratio.Sum(list...)
		answers(t, "too much on the way", got, e, nil, api.ErrLimbs)
	}
}

func TestNegAbsSign(t *testing.T) {
	for _, x := range append(small(), great()...) {
		a := ofRat(x)
		same(t, "Neg", ratio.Neg(a), new(big.Rat).Neg(x))
		same(t, "Abs", ratio.Abs(a), new(big.Rat).Abs(x))
		if got := ratio.Sign(a); got != x.Sign() {
			t.Errorf("Sign of %.80s: %d", x, got)
		}
	}
}

// P4.3

func TestCompareAtTheBound(t *testing.T) {
	most := power(maxBits, -1)
	whole, over := new(big.Rat).SetInt(most), new(big.Rat).SetFrac(big.NewInt(1), most)
	compares(t, whole, big.NewRat(1, 1), api.OK)
	compares(t, whole, over, api.ErrLimbs)
	compares(t, over, whole, api.ErrLimbs)
	compares(t, new(big.Rat).Neg(whole), big.NewRat(1, 2), api.ErrLimbs) // even if the signs would tell
	compares(t, big.NewRat(1, 2), whole, api.ErrLimbs)
	compares(t, new(big.Rat), over, api.OK)
	compares(t, new(big.Rat), whole, api.OK)
	compares(t, over, new(big.Rat).Neg(over), api.OK)
	compares(t, whole, whole, api.OK)
}

func TestFloorAndCeil(t *testing.T) {
	one := big.NewInt(1)
	for _, x := range append(small(), great()...) {
		// The library's Div of whole numbers rounds down, as what stands below is above 0.
		floor := new(big.Int).Div(x.Num(), x.Denom())
		ceil := floor
		if !x.IsInt() {
			ceil = new(big.Int).Add(floor, one)
		}
		for name, pair := range map[string][2]*big.Int{"Floor": {toBig(ratio.Floor(ofRat(x))), floor}, "Ceil": {toBig(ratio.Ceil(ofRat(x))), ceil}} {
			if pair[0].Cmp(pair[1]) != 0 {
				t.Errorf("%s of %.80s: %.80s, not %.80s", name, x, pair[0], pair[1])
			}
		}
	}
	for _, a := range []api.Rat{ratio.Zero(), ratio.Of(1, 3), ratio.Of(-1, 3)} {
		for _, n := range []api.Int{ratio.Floor(a), ratio.Ceil(a)} {
			if len(n.Size) == 0 && n.Minus {
				t.Error("0 is below 0")
			}
		}
	}
}

// P1

func TestNoCallPanics(t *testing.T) {
	list := append(wrong(), ratio.Zero(), ratio.Of(-3, 7), api.Rat{Num: api.Int{Size: slices.Repeat(api.Nat{math.MaxUint32}, maxLimbs)}, Den: api.Nat{1}})
	for _, a := range list {
		num, den := slices.Clone(a.Num.Size), slices.Clone(a.Den)
		ratio.Check(a)
		ratio.Whole(a.Num)
		ratio.Neg(a)
		ratio.Abs(a)
		ratio.Sign(a)
		ratio.Floor(a)
		ratio.Ceil(a)
		ratio.Text(a)
		for _, b := range list {
			ratio.Make(a.Num, b.Num)
			ratio.Add(a, b)
			ratio.Sub(a, b)
			ratio.Mul(a, b)
			ratio.Div(a, b)
			ratio.Sum(a, b)
			ratio.Compare(a, b)
		}
		if !slices.Equal(a.Num.Size, num) || !slices.Equal(a.Den, den) {
			t.Error("what was handed in was changed")
		}
	}
	for _, sign := range []string{"/", ".", "-", "0", "\xff"} {
		ratio.Parse(strings.Repeat(sign, 1<<20))
	}
}
