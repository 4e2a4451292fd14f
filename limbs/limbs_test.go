package limbs_test

import (
	"math"
	"math/big"
	"slices"
	"testing"

	"girdle/api"
	"girdle/limbs"
)

// The bounds as the document tells them: a wrong MaxLimbs is to be found too.
const (
	maxLimbs = 512
	maxBits  = 32 * maxLimbs
)

// toBig is a number as the library has it.
func toBig(a api.Nat) *big.Int {
	n := new(big.Int)
	for _, d := range slices.Backward(a) {
		n.Lsh(n, 32).Or(n, big.NewInt(int64(d)))
	}
	return n
}

// ofBig is a number of the library's.
func ofBig(n *big.Int) api.Nat {
	var a api.Nat
	low := big.NewInt(1<<32 - 1)
	for n = new(big.Int).Set(n); n.Sign() > 0; n.Rsh(n, 32) {
		a = append(a, uint32(new(big.Int).And(n, low).Uint64()))
	}
	return a
}

// full is a number of so many digits, all the same.
func full(n int, digit uint32) api.Nat {
	return slices.Repeat(api.Nat{digit}, n)
}

// power is 2 to the power of n.
func power(n int) api.Nat {
	return ofBig(new(big.Int).Lsh(big.NewInt(1), uint(n)))
}

// mixed is numbers of so many digits that look like no others, the same in every run.
func mixed(n int, seed uint64) api.Nat {
	a := make(api.Nat, n)
	for i := range a {
		seed = seed*6364136223846793005 + 1442695040888963407
		a[i] = uint32(seed >> 32)
	}
	if n > 0 {
		a[n-1] |= 1
	}
	return a
}

// numbers is numbers of all sizes, those at the edges among them.
func numbers() []api.Nat {
	list := []api.Nat{
		nil, {}, {1}, {2}, {7}, {math.MaxUint32}, {0, 1}, {1, 1}, {math.MaxUint32, 1}, {0, math.MaxUint32},
		full(2, math.MaxUint32), {0, 0, 1}, {1, 0, 1}, {0, math.MaxUint32, 1}, full(3, math.MaxUint32), {0, 0, 0, 1 << 31},
		power(maxBits / 2), full(maxLimbs/2, math.MaxUint32), full(maxLimbs/2+1, math.MaxUint32),
		power(maxBits - 1), power(maxBits - 32), full(maxLimbs-1, math.MaxUint32), full(maxLimbs, math.MaxUint32),
	}
	for i, n := range []int{1, 1, 2, 2, 3, 4, 5, 8, 13, 31, 100, 255, 256, 257, 511, 512} {
		list = append(list, mixed(n, uint64(i)))
	}
	return list
}

// wrong is what can't be numbers.
func wrong() []api.Nat {
	return []api.Nat{
		{0}, {0, 0}, {0, 0, 0}, {5, 0}, {0, 5, 0}, {1, 2, 3, 0, 0}, append(full(maxLimbs-1, 9), 0), append(full(maxLimbs, 9), 0),
		full(maxLimbs+1, 0), full(maxLimbs+1, 1), full(maxLimbs+1, math.MaxUint32), full(3000, 0), full(3000, math.MaxUint32),
	}
}

// shifts is how far is shifted, none of it below 0.
func shifts() []int {
	return []int{
		0, 1, 2, 31, 32, 33, 63, 64, 65, 96, 320, 1000, maxBits/2 - 1, maxBits / 2, maxBits - 64, maxBits - 32, maxBits - 2,
		maxBits - 1, maxBits, maxBits + 1, 1 << 20, math.MaxInt32, math.MaxInt - 31, math.MaxInt - 1, math.MaxInt,
	}
}

// same tells whether a call's answer is a number, in its form; with an error it is to be none.
func same(t *testing.T, what string, got api.Nat, e api.Errno, want *big.Int, wantE api.Errno) {
	t.Helper()
	if e != wantE {
		t.Fatalf("%s: error %d, not %d", what, e, wantE)
	}
	if wantE != api.OK {
		if len(got) != 0 {
			t.Fatalf("%s: a number beside error %d", what, e)
		}
		return
	}
	if toBig(got).Cmp(want) != 0 {
		t.Fatalf("%s: %x, not %x", what, toBig(got), want)
	}
	if len(got) > 0 && got[len(got)-1] == 0 {
		t.Fatalf("%s: noughts at the end", what)
	}
}

// tooGreat is the error of an answer.
func tooGreat(n *big.Int) api.Errno {
	if n.BitLen() > maxBits {
		return api.ErrLimbs
	}
	return api.OK
}

// P1.1

func TestCheck(t *testing.T) {
	if limbs.MaxLimbs != maxLimbs {
		t.Fatalf("MaxLimbs is %d", limbs.MaxLimbs)
	}
	for _, a := range numbers() {
		if e := limbs.Check(a); e != api.OK {
			t.Errorf("%d digits: error %d", len(a), e)
		}
	}
	for _, x := range []struct {
		a    api.Nat
		want api.Errno
	}{
		{api.Nat{0}, api.ErrForm},
		{api.Nat{0, 0}, api.ErrForm},
		{api.Nat{1, 0}, api.ErrForm},
		{api.Nat{0, 1}, api.OK},
		{api.Nat{1, 0, 1}, api.OK},
		{append(full(maxLimbs-1, 1), 0), api.ErrForm},
		{full(maxLimbs, 1), api.OK},
		{full(maxLimbs+1, 1), api.ErrLimbs},
		{append(full(maxLimbs, 1), 0), api.ErrLimbs},
		{full(maxLimbs+1, 0), api.ErrLimbs},
	} {
		if e := limbs.Check(x.a); e != x.want {
			t.Errorf("%d digits, the first %d: error %d, not %d", len(x.a), x.a[0], e, x.want)
		}
	}
}

func TestOfAndSmall(t *testing.T) {
	for _, n := range []uint64{0, 1, 2, 9, 1<<31 - 1, 1 << 31, 1<<32 - 1, 1 << 32, 1<<32 + 1, 5 << 32, 1<<63 - 1, 1 << 63, 1<<64 - 1} {
		a := limbs.Of(n)
		same(t, "Of", a, api.OK, new(big.Int).SetUint64(n), api.OK)
		if got, e := limbs.Small(a); got != n || e != api.OK {
			t.Errorf("Small of %d: %d, error %d", n, got, e)
		}
	}
	for _, a := range numbers() {
		want, wantE := toBig(a).Uint64(), api.OK
		if len(a) > 2 {
			want, wantE = 0, api.ErrLimbs
		}
		if got, e := limbs.Small(a); got != want || e != wantE {
			t.Errorf("Small of %d digits: %d, error %d", len(a), got, e)
		}
	}
}

func TestCompare(t *testing.T) {
	list := numbers()
	for _, a := range numbers() {
		if len(a) > 0 {
			list = append(list, ofBig(new(big.Int).Sub(toBig(a), big.NewInt(1))))
		}
	}
	for _, a := range list {
		for _, b := range list {
			if got, want := limbs.Compare(a, b), toBig(a).Cmp(toBig(b)); got != want {
				t.Errorf("%x and %x: %d, not %d", toBig(a), toBig(b), got, want)
			}
		}
	}
	for at := range 5 { // digits differ at one place alone, or at two against each other
		a, b := api.Nat{5, 5, 5, 5, 5}, api.Nat{5, 5, 5, 5, 5}
		a[at] = math.MaxUint32
		if limbs.Compare(a, b) != 1 || limbs.Compare(b, a) != -1 {
			t.Errorf("unlike at the place %d", at)
		}
		for below := range at {
			c := slices.Clone(b)
			c[below], c[at] = math.MaxUint32, 6
			if limbs.Compare(a, c) != 1 || limbs.Compare(c, a) != -1 {
				t.Errorf("unlike at the places %d and %d", at, below)
			}
		}
	}
}

func TestBitsAndTail(t *testing.T) {
	list := numbers()
	for n := range maxBits {
		list = append(list, power(n))
	}
	for n := 1; n < 200; n++ {
		list = append(list, ofBig(new(big.Int).Sub(toBig(power(n)), big.NewInt(1))))
	}
	for _, a := range list {
		n := toBig(a)
		if got := limbs.Bits(a); got != n.BitLen() {
			t.Errorf("Bits: %d, not %d", got, n.BitLen())
		}
		if got := limbs.Tail(a); got != int(n.TrailingZeroBits()) {
			t.Errorf("Tail: %d, not %d", got, n.TrailingZeroBits())
		}
	}
	if limbs.Tail(nil) != 0 || limbs.Bits(nil) != 0 || limbs.Tail(api.Nat{0, 0, 12}) != 66 || limbs.Bits(api.Nat{0, 0, 12}) != 68 {
		t.Error("Bits and Tail of nothing, and of 12 with two digits behind")
	}
}

// P1.2

func TestAddSubMul(t *testing.T) {
	for _, a := range numbers() {
		for _, b := range numbers() {
			x, y := toBig(a), toBig(b)
			got, e := limbs.Add(a, b)
			want := new(big.Int).Add(x, y)
			same(t, "Add", got, e, want, tooGreat(want))
			got, e = limbs.Mul(a, b)
			want.Mul(x, y)
			same(t, "Mul", got, e, want, tooGreat(want))
			got, e = limbs.Sub(a, b)
			wantE := api.OK
			if want.Sub(x, y).Sign() < 0 {
				wantE = api.ErrLess
			}
			same(t, "Sub", got, e, want, wantE)
		}
	}
}

func TestSumsAtTheBound(t *testing.T) {
	most, one := full(maxLimbs, math.MaxUint32), api.Nat{1}
	if s, e := limbs.Add(most, nil); e != api.OK || limbs.Compare(s, most) != 0 {
		t.Error("the greatest number and nothing")
	}
	if s, e := limbs.Add(most, one); e != api.ErrLimbs || len(s) != 0 {
		t.Error("the greatest number and one")
	}
	if s, e := limbs.Add(one, most); e != api.ErrLimbs || len(s) != 0 {
		t.Error("one and the greatest number")
	}
	less, _ := limbs.Sub(most, one)
	if s, e := limbs.Add(one, less); e != api.OK || limbs.Compare(s, most) != 0 {
		t.Error("one and the greatest number but one")
	}
	if s, e := limbs.Sub(less, most); e != api.ErrLess || len(s) != 0 {
		t.Error("less by one")
	}
	if s, e := limbs.Sub(most, most); e != api.OK || len(s) != 0 {
		t.Error("nothing left")
	}
}

func TestProductsAtTheBound(t *testing.T) {
	half := maxBits / 2
	for _, x := range []struct {
		a, b api.Nat
		want api.Errno
	}{
		{power(half), power(half - 1), api.OK}, // digits of both: one more than there may be, of the product not
		{power(half), power(half), api.ErrLimbs},
		{full(256, math.MaxUint32), full(256, math.MaxUint32), api.OK},
		{full(257, math.MaxUint32), full(256, math.MaxUint32), api.ErrLimbs},
		{full(maxLimbs, math.MaxUint32), api.Nat{1}, api.OK},
		{full(maxLimbs, math.MaxUint32), api.Nat{2}, api.ErrLimbs},
		{full(maxLimbs, 1), api.Nat{math.MaxUint32}, api.OK},
		{full(maxLimbs, 1), api.Nat{0, 1}, api.ErrLimbs},
		{full(maxLimbs, math.MaxUint32), nil, api.OK},
		{full(maxLimbs, math.MaxUint32), full(maxLimbs, math.MaxUint32), api.ErrLimbs},
	} {
		want := new(big.Int).Mul(toBig(x.a), toBig(x.b))
		got, e := limbs.Mul(x.a, x.b)
		same(t, "Mul", got, e, want, x.want)
		got, e = limbs.Mul(x.b, x.a)
		same(t, "Mul the other way round", got, e, want, x.want)
	}
}

func TestShifts(t *testing.T) {
	for _, a := range numbers() {
		for _, n := range shifts() {
			got, e := limbs.Left(a, n)
			if len(a) == 0 {
				same(t, "Left of nothing", got, e, new(big.Int), api.OK)
			} else if n > maxBits {
				same(t, "Left by more than there may be", got, e, nil, api.ErrLimbs)
			} else {
				want := new(big.Int).Lsh(toBig(a), uint(n))
				same(t, "Left", got, e, want, tooGreat(want))
			}
			got, e = limbs.Right(a, n)
			want := new(big.Int)
			if n <= maxBits {
				want.Rsh(toBig(a), uint(n))
			}
			same(t, "Right", got, e, want, api.OK)
		}
		for _, n := range []int{-1, -2, -32, -33, math.MinInt32, math.MinInt} {
			got, e := limbs.Left(a, n)
			same(t, "Left by less than nothing", got, e, nil, api.ErrRange)
			got, e = limbs.Right(a, n)
			same(t, "Right by less than nothing", got, e, nil, api.ErrRange)
		}
	}
}

func TestShiftsByEachNumber(t *testing.T) {
	a := mixed(5, 99)
	for n := range 200 {
		got, e := limbs.Left(a, n)
		same(t, "Left", got, e, new(big.Int).Lsh(toBig(a), uint(n)), api.OK)
		got, e = limbs.Right(a, n)
		same(t, "Right", got, e, new(big.Int).Rsh(toBig(a), uint(n)), api.OK)
	}
	for n := maxBits - 200; n < maxBits+70; n++ {
		want := new(big.Int).Lsh(toBig(a), uint(n))
		got, e := limbs.Left(a, n)
		same(t, "Left at the bound", got, e, want, tooGreat(want))
		want.Lsh(big.NewInt(1), uint(n))
		got, e = limbs.Left(api.Nat{1}, n)
		same(t, "Left of 1 at the bound", got, e, want, tooGreat(want))
	}
}

// P1.3

// divided holds a division against the library's.
func divided(t *testing.T, a, b api.Nat) {
	t.Helper()
	often, left, e := limbs.Div(a, b)
	if len(b) == 0 {
		same(t, "Div by nothing", often, e, nil, api.ErrZero)
		same(t, "what Div by nothing leaves", left, e, nil, api.ErrZero)
		return
	}
	q, r := new(big.Int).QuoRem(toBig(a), toBig(b), new(big.Int))
	same(t, "Div", often, e, q, api.OK)
	same(t, "what Div leaves", left, e, r, api.OK)
}

func TestDiv(t *testing.T) {
	for _, a := range numbers() {
		for _, b := range numbers() {
			divided(t, a, b)
			// By each number, what is just a multiple of another one, and one less.
			if p, e := limbs.Mul(a, b); e == api.OK && len(p) > 0 {
				divided(t, p, a)
				less, _ := limbs.Sub(p, api.Nat{1})
				divided(t, less, a)
			}
		}
	}
	if often, left, e := limbs.Div(power(64), api.Nat{7}); e != api.OK || limbs.Compare(left, api.Nat{2}) != 0 || toBig(often).Uint64() != (1<<64-2)/7 {
		t.Error("2^64 divided by 7 leaves 2")
	}
}

// TestDivOfEdgeDigits goes through digits at which a guess is too great by one or two, or taken off once too often.
func TestDivOfEdgeDigits(t *testing.T) {
	edges := []uint32{0, 1, 1<<31 - 1, 1 << 31, 1<<32 - 2, 1<<32 - 1}
	lists := [][]api.Nat{{nil}}
	for range 4 {
		var longer []api.Nat
		for _, a := range lists[len(lists)-1] {
			for _, d := range edges {
				longer = append(longer, append(api.Nat{d}, a...))
			}
		}
		lists = append(lists, longer)
	}
	for _, as := range lists {
		for _, bs := range lists[1:4] {
			for _, a := range as {
				for _, b := range bs {
					if limbs.Check(a) == api.OK && limbs.Check(b) == api.OK {
						divided(t, a, b)
					}
				}
			}
		}
	}
}

// P1

func TestNoCallPanics(t *testing.T) {
	list := append(wrong(), nil, api.Nat{1}, power(64), full(maxLimbs, math.MaxUint32))
	counts := append(shifts(), -1, -32, math.MinInt)
	for _, a := range list {
		x := slices.Clone(a)
		limbs.Check(a)
		limbs.Small(a)
		limbs.Bits(a)
		limbs.Tail(a)
		for _, n := range counts {
			limbs.Left(a, n)
			limbs.Right(a, n)
		}
		for _, b := range list {
			limbs.Compare(a, b)
			limbs.Add(a, b)
			limbs.Sub(a, b)
			limbs.Mul(a, b)
			limbs.Div(a, b)
		}
		if !slices.Equal(a, x) {
			t.Errorf("%d digits were changed", len(x))
		}
	}
}

// P2

// call is a call of two numbers, or of one.
type call struct {
	name string
	do   func(a, b api.Nat) []api.Nat
}

// calls is all calls that answer numbers.
func calls() []call {
	both := func(f func(a, b api.Nat) (api.Nat, api.Errno)) func(a, b api.Nat) []api.Nat {
		return func(a, b api.Nat) []api.Nat {
			c, _ := f(a, b)
			return []api.Nat{c}
		}
	}
	list := []call{
		{"Of", func(a, b api.Nat) []api.Nat { return []api.Nat{limbs.Of(1<<40 + 5)} }},
		{"Of a digit", func(a, b api.Nat) []api.Nat { return []api.Nat{limbs.Of(5)} }},
		{"Add", both(limbs.Add)},
		{"Sub", both(limbs.Sub)},
		{"Mul", both(limbs.Mul)},
		{"Div", func(a, b api.Nat) []api.Nat {
			q, r, _ := limbs.Div(a, b)
			return []api.Nat{q, r}
		}},
	}
	for _, n := range []int{0, 1, 32, 33, 64} {
		list = append(list,
			call{"Left", both(func(a, b api.Nat) (api.Nat, api.Errno) { return limbs.Left(a, n) })},
			call{"Right", both(func(a, b api.Nat) (api.Nat, api.Errno) { return limbs.Right(a, n) })})
	}
	return list
}

// roomy is a copy with spare room, that isn't empty.
func roomy(a api.Nat) api.Nat {
	b := append(slices.Clone(a), 77, 78, 79, 80)
	return b[:len(a)]
}

// whole is a list with its spare room.
func whole(a api.Nat) api.Nat { return a[:cap(a)] }

// spoil writes over a list, and its spare room.
func spoil(a api.Nat) {
	for i := range whole(a) {
		whole(a)[i] ^= 0xa5a5a5a5
	}
}

// equal holds lists against each other.
func equal(a, b []api.Nat) bool {
	return slices.EqualFunc(a, b, func(x, y api.Nat) bool { return slices.Equal(x, y) })
}

func copies(a []api.Nat) []api.Nat {
	var b []api.Nat
	for _, x := range a {
		b = append(b, slices.Clone(x))
	}
	return b
}

func TestMemory(t *testing.T) {
	list := []api.Nat{nil, {1}, {6}, {1, 1}, power(32), power(64), mixed(3, 1), mixed(6, 2), full(4, math.MaxUint32)}
	for _, c := range calls() {
		for _, a := range list {
			for _, b := range list {
				apart(t, c, a, b)
			}
		}
	}
}

// apart tells whether a call leaves its arguments alone, and whether its answers are memory of their own.
func apart(t *testing.T, c call, a, b api.Nat) {
	t.Helper()
	x, y := roomy(a), roomy(b)
	handed := copies([]api.Nat{whole(x), whole(y)})
	first := c.do(x, y)
	kept := copies(first)
	if !equal(handed, []api.Nat{whole(x), whole(y)}) {
		t.Fatalf("%s changed what was handed in", c.name)
	}
	for i := range kept {
		earlier, spoilt, later := c.do(x, y), c.do(x, y), c.do(x, y)
		spoil(spoilt[i])
		for j := range spoilt {
			if j != i && !slices.Equal(spoilt[j], kept[j]) {
				t.Fatalf("%s: its answers share memory", c.name)
			}
		}
		if !equal(earlier, kept) || !equal(later, kept) {
			t.Fatalf("%s: answers of two calls share memory", c.name)
		}
		if !equal(handed, []api.Nat{whole(x), whole(y)}) {
			t.Fatalf("%s: an answer shares memory with what was handed in", c.name)
		}
	}
	if !equal(c.do(x, y), kept) {
		t.Fatalf("%s: another answer for the same numbers", c.name)
	}
	spoil(x)
	spoil(y)
	if !equal(first, kept) {
		t.Fatalf("%s keeps what was handed in", c.name)
	}
}

// TestOneNumberTwice hands in the same memory as both numbers.
func TestOneNumberTwice(t *testing.T) {
	for _, n := range []int{1, 2, 5, 40} {
		a := mixed(n, 5)
		x := toBig(a)
		got, e := limbs.Add(a, a)
		same(t, "Add", got, e, new(big.Int).Add(x, x), api.OK)
		got, e = limbs.Mul(a, a)
		same(t, "Mul", got, e, new(big.Int).Mul(x, x), api.OK)
		got, e = limbs.Sub(a, a)
		same(t, "Sub", got, e, new(big.Int), api.OK)
		divided(t, a, a)
		if limbs.Compare(a, a) != 0 {
			t.Error("Compare")
		}
	}
}
