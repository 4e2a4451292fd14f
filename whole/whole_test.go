package whole_test

import (
	"math"
	"math/big"
	"slices"
	"strings"
	"testing"

	"girdle/api"
	"girdle/whole"
)

// The bounds as the document tells them.
const (
	maxLimbs  = 512
	maxBits   = 32 * maxLimbs
	maxDigits = 4900
)

// toBig is a number as the library has it.
func toBig(a api.Int) *big.Int {
	n := new(big.Int)
	for _, d := range slices.Backward(a.Size) {
		n.Lsh(n, 32).Or(n, big.NewInt(int64(d)))
	}
	if a.Minus {
		n.Neg(n)
	}
	return n
}

// ofBig is a number of the library's.
func ofBig(n *big.Int) api.Int {
	a := api.Int{Minus: n.Sign() < 0}
	low := big.NewInt(math.MaxUint32)
	for n = new(big.Int).Abs(n); n.Sign() > 0; n.Rsh(n, 32) {
		a.Size = append(a.Size, uint32(new(big.Int).And(n, low).Uint64()))
	}
	return a
}

// power is 2 to the power of n, and some more.
func power(n int, more int64) *big.Int {
	x := new(big.Int).Lsh(big.NewInt(1), uint(n))
	return x.Add(x, big.NewInt(more))
}

// mixed is a number of so many digits to the base 2^32 that looks like no other, the same in every run.
func mixed(n int, seed uint64) *big.Int {
	x := big.NewInt(1)
	for range n - 1 {
		seed = seed*6364136223846793005 + 1442695040888963407
		x.Lsh(x, 32).Or(x, big.NewInt(int64(seed>>32)))
	}
	return x
}

// numbers is numbers of all sizes on both sides of 0, those at the edges among them.
func numbers() []*big.Int {
	sizes := []*big.Int{
		power(31, -1), power(31, 0), power(32, -1), power(32, 0), power(32, 1), power(63, -1), power(63, 0), power(63, 1),
		power(64, -1), power(64, 0), power(64, 1), power(96, 0), power(100, -1), power(maxBits/2, -1), power(maxBits/2, 0),
		power(maxBits-32, 0), power(maxBits-1, -1), power(maxBits-1, 0), power(maxBits, -2), power(maxBits, -1),
	}
	for n := range int64(10) {
		sizes = append(sizes, big.NewInt(n+1))
	}
	for i, n := range []int{2, 3, 4, 6, 31, 255, 256, 257, 511, 512} {
		sizes = append(sizes, mixed(n, uint64(i)))
	}
	list := []*big.Int{new(big.Int)}
	for _, x := range sizes {
		list = append(list, x, new(big.Int).Neg(x))
	}
	return list
}

// nothings is 0 in both its forms.
func nothings() []api.Int { return []api.Int{{}, {Size: api.Nat{}}} }

// wrong is what can't be numbers.
func wrong() []api.Int {
	var list []api.Int
	for _, size := range []api.Nat{
		{0}, {0, 0}, {5, 0}, {0, 5, 0}, append(slices.Repeat(api.Nat{9}, maxLimbs), 0), make(api.Nat, maxLimbs+1),
		slices.Repeat(api.Nat{1}, maxLimbs+1), slices.Repeat(api.Nat{math.MaxUint32}, 3000),
	} {
		list = append(list, api.Int{Size: size}, api.Int{Minus: true, Size: size})
	}
	return append(list, api.Int{Minus: true}, api.Int{Minus: true, Size: api.Nat{}})
}

// inForm tells whether a number is in its form: no noughts at the end, no 0 below 0.
func inForm(a api.Int) bool {
	n := len(a.Size)
	return n <= maxLimbs && (n == 0 || a.Size[n-1] != 0) && !(n == 0 && a.Minus)
}

// same tells whether an answer is that number, in its form.
func same(t *testing.T, what string, got api.Int, want *big.Int) {
	t.Helper()
	if toBig(got).Cmp(want) != 0 || !inForm(got) {
		t.Fatalf("%s: %x, not %x (%v, %d digits)", what, toBig(got), want, got.Minus, len(got.Size))
	}
}

// none tells whether a call's answer is that error, and 0 beside it.
func none(t *testing.T, what string, got api.Int, e, want api.Errno) {
	t.Helper()
	if e != want || got.Minus || len(got.Size) > 0 {
		t.Fatalf("%s: error %d beside %d digits, not %d", what, e, len(got.Size), want)
	}
}

// answers tells whether a call's answer is that number, or ErrLimbs, if it has too many digits; beside that stands any number.
func answers(t *testing.T, what string, got api.Int, e api.Errno, want *big.Int) {
	t.Helper()
	if want.BitLen() > maxBits {
		if e != api.ErrLimbs || !inForm(got) {
			t.Fatalf("%s of too much: error %d", what, e)
		}
		return
	}
	if e != api.OK {
		t.Fatalf("%s: error %d", what, e)
	}
	same(t, what, got, want)
}

// P3.1

func TestCheck(t *testing.T) {
	for _, n := range numbers() {
		if e := whole.Check(ofBig(n)); e != api.OK {
			t.Errorf("%x: error %d", n, e)
		}
	}
	for _, a := range nothings() {
		if e := whole.Check(a); e != api.OK {
			t.Errorf("0: error %d", e)
		}
	}
	for i, x := range []struct {
		a    api.Int
		want api.Errno
	}{
		{api.Int{Minus: true}, api.ErrForm},
		{api.Int{Minus: true, Size: api.Nat{}}, api.ErrForm},
		{api.Int{Size: api.Nat{0}}, api.ErrForm},
		{api.Int{Minus: true, Size: api.Nat{0}}, api.ErrForm},
		{api.Int{Size: api.Nat{1, 0}}, api.ErrForm},
		{api.Int{Minus: true, Size: api.Nat{1, 0}}, api.ErrForm},
		{api.Int{Minus: true, Size: api.Nat{0, 1}}, api.OK},
		{api.Int{Minus: true, Size: slices.Repeat(api.Nat{1}, maxLimbs)}, api.OK},
		{api.Int{Size: slices.Repeat(api.Nat{1}, maxLimbs+1)}, api.ErrLimbs},
		{api.Int{Minus: true, Size: slices.Repeat(api.Nat{1}, maxLimbs+1)}, api.ErrLimbs},
		{api.Int{Minus: true, Size: make(api.Nat, maxLimbs+1)}, api.ErrLimbs},
		{api.Int{Minus: true, Size: make(api.Nat, maxLimbs)}, api.ErrForm},
	} {
		if e := whole.Check(x.a); e != x.want {
			t.Errorf("the number %d: error %d, not %d", i, e, x.want)
		}
	}
}

func TestOfAndSmall(t *testing.T) {
	for _, n := range []int64{0, 1, -1, 2, -7, 1<<31 - 1, -1 << 31, 1<<32 - 1, 1 << 32, -1 << 32, -1<<32 - 1, 5 << 40, math.MaxInt64, math.MinInt64, math.MinInt64 + 1} {
		a := whole.Of(n)
		same(t, "Of", a, big.NewInt(n))
		if got, e := whole.Small(a); got != n || e != api.OK {
			t.Errorf("Small of %d: %d, error %d", n, got, e)
		}
	}
	for _, n := range numbers() {
		want, wantE := int64(0), api.ErrLimbs
		if n.IsInt64() {
			want, wantE = n.Int64(), api.OK
		}
		if got, e := whole.Small(ofBig(n)); got != want || e != wantE {
			t.Errorf("Small of %x: %d, error %d", n, got, e)
		}
	}
	for _, a := range nothings() {
		if got, e := whole.Small(a); got != 0 || e != api.OK {
			t.Errorf("Small of 0: %d, error %d", got, e)
		}
	}
}

func TestNatNegAbsSign(t *testing.T) {
	for _, n := range numbers() {
		a := ofBig(n)
		same(t, "Nat", whole.Nat(a.Size), new(big.Int).Abs(n))
		same(t, "Neg", whole.Neg(a), new(big.Int).Neg(n))
		same(t, "Abs", whole.Abs(a), new(big.Int).Abs(n))
		if got := whole.Sign(a); got != n.Sign() {
			t.Errorf("Sign of %x: %d", n, got)
		}
	}
	for _, a := range nothings() {
		same(t, "Nat of 0", whole.Nat(a.Size), new(big.Int))
		same(t, "Neg of 0", whole.Neg(a), new(big.Int))
		same(t, "Abs of 0", whole.Abs(a), new(big.Int))
		if whole.Sign(a) != 0 {
			t.Error("Sign of 0")
		}
	}
}

func TestCompare(t *testing.T) {
	for _, x := range numbers() {
		for _, y := range numbers() {
			a, b, want := ofBig(x), ofBig(y), x.Cmp(y)
			if got := whole.Compare(a, b); got != want {
				t.Errorf("%x and %x: %d, not %d", x, y, got, want)
			}
			if got := whole.Same(a, b); got != (want == 0) {
				t.Errorf("%x and %x: %v", x, y, got)
			}
		}
	}
	for _, a := range nothings() {
		for _, b := range nothings() {
			if whole.Compare(a, b) != 0 || !whole.Same(a, b) {
				t.Error("0 in both its forms")
			}
		}
	}
}

// P3.2

func TestAddSubMul(t *testing.T) {
	for _, x := range numbers() {
		for _, y := range numbers() {
			a, b := ofBig(x), ofBig(y)
			got, e := whole.Add(a, b)
			answers(t, "Add", got, e, new(big.Int).Add(x, y))
			got, e = whole.Sub(a, b)
			answers(t, "Sub", got, e, new(big.Int).Sub(x, y))
			got, e = whole.Mul(a, b)
			answers(t, "Mul", got, e, new(big.Int).Mul(x, y))
			got, e = whole.Sum(a, b)
			answers(t, "Sum", got, e, new(big.Int).Add(x, y))
		}
	}
}

func TestSum(t *testing.T) {
	most, least := ofBig(power(maxBits, -1)), ofBig(new(big.Int).Neg(power(maxBits, -1)))
	one, less := whole.Of(1), whole.Of(-1)
	got, e := whole.Sum()
	answers(t, "Sum of none", got, e, new(big.Int))
	for _, n := range numbers() {
		got, e = whole.Sum(ofBig(n))
		answers(t, "Sum of one", got, e, n)
	}
	got, e = whole.Sum(whole.Of(1), whole.Of(-5), whole.Of(7), whole.Of(-2), whole.Of(math.MinInt64))
	answers(t, "Sum of five", got, e, new(big.Int).Add(big.NewInt(math.MinInt64), big.NewInt(1)))
	// One after the other: what has no room on the way isn't mended by what comes later.
	for i, list := range [][]api.Int{{most, one, less}, {one, most, less}, {least, less, one}, {most, most, least}, {most, one, least, least}} {
		if _, e := whole.Sum(list...); e != api.ErrLimbs {
			t.Errorf("too much on the way %d: error %d", i, e)
		}
	}
	for _, list := range [][]api.Int{{most, less, one}, {less, most, one}, {one, less, most}} {
		got, e = whole.Sum(list...)
		answers(t, "room on the way", got, e, power(maxBits, -1))
	}
}

// P3.3

func TestDiv(t *testing.T) {
	for _, x := range numbers() {
		for _, y := range numbers() {
			a, b := ofBig(x), ofBig(y)
			often, left, e := whole.Div(a, b)
			if y.Sign() == 0 {
				none(t, "Div by nothing", often, e, api.ErrZero)
				none(t, "what Div by nothing leaves", left, e, api.ErrZero)
				continue
			}
			// The library's DivMod leaves from 0 on too.
			q, r := new(big.Int).DivMod(x, y, new(big.Int))
			answers(t, "Div", often, e, q)
			answers(t, "what Div leaves", left, e, r)
		}
	}
	for _, a := range nothings() {
		for _, b := range nothings() {
			often, left, e := whole.Div(a, b)
			none(t, "nothing by nothing", often, e, api.ErrZero)
			none(t, "what nothing by nothing leaves", left, e, api.ErrZero)
		}
	}
	for x := int64(-30); x <= 30; x++ {
		for y := int64(-9); y <= 9; y++ {
			often, left, e := whole.Div(whole.Of(x), whole.Of(y))
			if y == 0 {
				continue
			}
			r := ((x % y) + max(y, -y)) % max(y, -y)
			answers(t, "Div", often, e, big.NewInt((x-r)/y))
			answers(t, "what Div leaves", left, e, big.NewInt(r))
		}
	}
	often, left, e := whole.Div(whole.Of(-7), whole.Of(2))
	if e != api.OK || whole.Text(often) != "-4" || whole.Text(left) != "1" {
		t.Error("-7 by 2 is -4, and 1 is left")
	}
}

func TestShifts(t *testing.T) {
	shifts := []int{0, 1, 2, 3, 31, 32, 33, 63, 64, 65, 100, maxBits/2 - 1, maxBits / 2, maxBits - 33, maxBits - 2, maxBits - 1, maxBits, maxBits + 1}
	for _, x := range numbers() {
		a := ofBig(x)
		for _, n := range shifts {
			got, e := whole.Left(a, n)
			answers(t, "Left", got, e, new(big.Int).Lsh(x, uint(n)))
			if e != api.OK {
				none(t, "Left of too much", got, e, api.ErrLimbs)
			}
			got, e = whole.Right(a, n)
			answers(t, "Right", got, e, new(big.Int).Rsh(x, uint(n)))
		}
		for _, n := range []int{1 << 20, math.MaxInt32, math.MaxInt - 31, math.MaxInt} {
			got, e := whole.Right(a, n)
			answers(t, "Right of all", got, e, big.NewInt(int64(min(x.Sign(), 0))))
			got, e = whole.Left(a, n)
			if x.Sign() == 0 {
				answers(t, "Left of nothing", got, e, x)
			} else {
				none(t, "Left by far", got, e, api.ErrLimbs)
			}
		}
		for _, n := range []int{-1, -32, math.MinInt32, math.MinInt} {
			got, e := whole.Left(a, n)
			none(t, "Left by less than nothing", got, e, api.ErrRange)
			got, e = whole.Right(a, n)
			none(t, "Right by less than nothing", got, e, api.ErrRange)
		}
	}
}

func TestRightByEachNumber(t *testing.T) {
	for _, x := range []*big.Int{big.NewInt(-1), big.NewInt(-7), big.NewInt(-8), new(big.Int).Neg(power(70, 0)), new(big.Int).Neg(power(96, -1)), new(big.Int).Neg(mixed(5, 3))} {
		for n := range 200 {
			got, e := whole.Right(ofBig(x), n)
			answers(t, "Right", got, e, new(big.Int).Rsh(x, uint(n)))
		}
	}
}

// P3.4

func TestTextAndParse(t *testing.T) {
	for _, n := range numbers() {
		text := whole.Text(ofBig(n))
		if text != n.String() {
			t.Errorf("%.60s, not %.60s", text, n)
		}
		if len(strings.TrimPrefix(text, "-")) > maxDigits {
			continue
		}
		got, e := whole.Parse(text)
		answers(t, "Parse", got, e, n)
	}
	for _, a := range nothings() {
		if whole.Text(a) != "0" {
			t.Error("Text of 0")
		}
	}
	for text, want := range map[string]int64{"0": 0, "-0": 0, "-000": 0, "-007": -7, "0012": 12, "-1": -1, "9223372036854775807": math.MaxInt64, "-9223372036854775808": math.MinInt64} {
		got, e := whole.Parse(text)
		answers(t, "Parse of "+text, got, e, big.NewInt(want))
	}
}

func TestParseAtTheBound(t *testing.T) {
	for _, digit := range []string{"0", "1", "9"} {
		most := strings.Repeat(digit, maxDigits)
		for _, sign := range []string{"", "-"} {
			n, _ := new(big.Int).SetString(sign+most, 10)
			got, e := whole.Parse(sign + most)
			answers(t, "Parse of MaxDigits digits", got, e, n)
			refused(t, sign+most+digit, api.ErrLong)
		}
	}
}

// refused tells whether Parse answers that error, and 0.
func refused(t *testing.T, text string, want api.Errno) {
	t.Helper()
	a, e := whole.Parse(text)
	none(t, "Parse of "+text[:min(len(text), 40)], a, e, want)
}

func TestParseOfNoNumber(t *testing.T) {
	for _, text := range []string{
		"", "-", "--", "--1", "---", "+", "+1", "-+1", "+-1", " ", " 1", "1 ", "- 1", "-1 ", "1-", "1-2", "-1-", "1\n", "x", "-x", "1x", "-1x", "-x1",
		"0x10", "1e3", "1_0", "1,0", "1.5", "-1.5", ".", "1/2", "\x00", "-\x00", "\xff", "-\xff", "\u22121", "\u20131", "-\u0661", "\uff0d1",
	} {
		refused(t, text, api.ErrForm)
	}
	long := strings.Repeat("7", maxDigits+1)
	for _, text := range []string{long + "x", "-" + long + "x", "--" + long, "-" + strings.Repeat("x", maxDigits+1)} {
		refused(t, text, api.ErrForm)
	}
}

// P1

func TestNoCallPanics(t *testing.T) {
	list := append(wrong(), api.Int{}, whole.Of(1), whole.Of(-5), ofBig(power(maxBits, -1)))
	for _, a := range list {
		kept := api.Int{Minus: a.Minus, Size: slices.Clone(a.Size)}
		whole.Check(a)
		whole.Nat(a.Size)
		whole.Sign(a)
		whole.Neg(a)
		whole.Abs(a)
		whole.Text(a)
		whole.Small(a)
		for _, n := range []int{math.MinInt, -1, 0, 1, 32, 33, maxBits, math.MaxInt} {
			whole.Left(a, n)
			whole.Right(a, n)
		}
		for _, b := range list {
			whole.Same(a, b)
			whole.Compare(a, b)
			whole.Add(a, b)
			whole.Sub(a, b)
			whole.Mul(a, b)
			whole.Div(a, b)
			whole.Sum(a, b, a)
		}
		if a.Minus != kept.Minus || !slices.Equal(a.Size, kept.Size) {
			t.Errorf("%d digits were changed", len(kept.Size))
		}
	}
	whole.Parse(strings.Repeat("-", 1<<20))
	whole.Parse(strings.Repeat("1", 1<<20))
}
