package digits_test

import (
	"math"
	"math/big"
	"slices"
	"strings"
	"testing"

	"girdle/api"
	"girdle/digits"
	"girdle/limbs"
)

// The bounds as the document tells them; 10 to the power of mostTen is the greatest that has room in MaxLimbs digits.
const (
	maxDigits = 4900
	maxLimbs  = 512
	mostTen   = 4932
)

// toBig is a number as the library has it.
func toBig(a api.Nat) *big.Int {
	n := new(big.Int)
	for _, d := range slices.Backward(a) {
		n.Lsh(n, 32).Or(n, big.NewInt(int64(d)))
	}
	return n
}

// ofBig is a number of the library's.
func ofBig(n *big.Int) api.Nat {
	var a api.Nat
	low := big.NewInt(1<<32 - 1)
	for n = new(big.Int).Set(n); n.Sign() > 0; n.Rsh(n, 32) {
		a = append(a, uint32(new(big.Int).And(n, low).Uint64()))
	}
	return a
}

// ofText is a number of the library's digits.
func ofText(t *testing.T, s string) api.Nat {
	t.Helper()
	n, ok := new(big.Int).SetString(s, 10)
	if !ok {
		t.Fatalf("no number: %.40s", s)
	}
	return ofBig(n)
}

// full is a number of so many digits to the base 2^32, all the same.
func full(n int, digit uint32) api.Nat {
	return slices.Repeat(api.Nat{digit}, n)
}

// mixed is numbers of so many digits to the base 2^32 that look like no others, the same in every run.
func mixed(n int, seed uint64) api.Nat {
	a := make(api.Nat, n)
	for i := range a {
		seed = seed*6364136223846793005 + 1442695040888963407
		a[i] = uint32(seed >> 32)
	}
	if n > 0 {
		a[n-1] |= 1
	}
	return a
}

// numbers is numbers of all sizes.
func numbers() []api.Nat {
	list := []api.Nat{
		nil, {}, {1}, {9}, {10}, {math.MaxUint32}, {0, 1}, full(2, math.MaxUint32), {0, 0, 1}, full(3, math.MaxUint32),
		full(maxLimbs, math.MaxUint32), append(full(maxLimbs-1, 0), 1),
	}
	for i, n := range []int{1, 1, 2, 2, 3, 4, 6, 9, 20, 61, 128, 333, 511, 512} {
		list = append(list, mixed(n, uint64(i)))
	}
	return list
}

// wrong is what can't be numbers.
func wrong() []api.Nat {
	return []api.Nat{
		{0}, {0, 0}, {0, 0, 0}, {5, 0}, {0, 5, 0}, append(full(maxLimbs-1, 9), 0), append(full(maxLimbs, 9), 0),
		full(maxLimbs+1, 0), full(maxLimbs+1, 1), full(maxLimbs+1, math.MaxUint32), full(3000, 0), full(3000, math.MaxUint32),
	}
}

// isNumber tells whether a call's answer is that number, in its form.
func isNumber(t *testing.T, what string, got api.Nat, e api.Errno, want *big.Int) {
	t.Helper()
	if e != api.OK || toBig(got).Cmp(want) != 0 || len(got) > 0 && got[len(got)-1] == 0 {
		t.Fatalf("%s: %x, error %d, not %x", what, toBig(got), e, want)
	}
}

// isError tells whether a call's answer is that error, and no number beside.
func isError(t *testing.T, what string, got api.Nat, e, want api.Errno) {
	t.Helper()
	if e != want || len(got) != 0 {
		t.Fatalf("%s: error %d beside %d digits, not %d", what, e, len(got), want)
	}
}

// P2.1

func TestText(t *testing.T) {
	for _, a := range numbers() {
		if got, want := digits.Text(a), toBig(a).String(); got != want {
			t.Errorf("%d digits: %.60s, not %.60s", len(a), got, want)
		}
	}
	ten := big.NewInt(1)
	for n := range mostTen + 1 { // where texts grow longer, and noughts stand within
		if n < 200 || n%97 == 0 || n > mostTen-3 {
			for _, by := range []int64{-1, 0, 1, 7000} {
				x := new(big.Int).Add(ten, big.NewInt(by))
				if x.Sign() >= 0 && digits.Text(ofBig(x)) != x.String() {
					t.Errorf("10 to the power of %d, and %d", n, by)
				}
			}
		}
		ten.Mul(ten, big.NewInt(10))
	}
	for text, a := range map[string]api.Nat{"0": nil, "1": {1}, "4294967295": {math.MaxUint32}, "4294967296": {0, 1}, "18446744073709551616": {0, 0, 1}} {
		if got := digits.Text(a); got != text {
			t.Errorf("%s, not %s", got, text)
		}
	}
}

func TestParse(t *testing.T) {
	if digits.MaxDigits != maxDigits {
		t.Fatalf("MaxDigits is %d", digits.MaxDigits)
	}
	for _, a := range numbers() {
		text := digits.Text(a)
		if got, e := digits.Parse(text); len(text) > maxDigits {
			isError(t, "a number of too many digits", got, e, api.ErrLong)
		} else {
			isNumber(t, text, got, e, toBig(a))
		}
	}
	for n := 1; n < 120; n++ {
		for _, text := range []string{strings.Repeat("9", n), strings.Repeat("0", n), "1" + strings.Repeat("0", n), strings.Repeat("0", n) + "12", strings.Repeat("1234567890", n)[:n]} {
			a, e := digits.Parse(text)
			isNumber(t, text, a, e, toBig(ofText(t, text)))
		}
	}
}

func TestParseAtTheBound(t *testing.T) {
	for _, digit := range []string{"0", "1", "9"} {
		text := strings.Repeat(digit, maxDigits)
		a, e := digits.Parse(text)
		isNumber(t, "MaxDigits times "+digit, a, e, toBig(ofText(t, text)))
		if digit != "0" && digits.Text(a) != text {
			t.Errorf("MaxDigits times %s is another text", digit)
		}
		for _, n := range []int{1, 2, 18, 1000, 100000} {
			a, e = digits.Parse(text + strings.Repeat(digit, n))
			isError(t, "more than MaxDigits", a, e, api.ErrLong)
		}
	}
	a, e := digits.Parse(strings.Repeat("0", maxDigits) + "1")
	isError(t, "noughts ahead are digits too", a, e, api.ErrLong)
}

func TestParseOfNoDigits(t *testing.T) {
	for _, text := range []string{
		"", " ", "-", "+", "-1", "+1", "--1", " 1", "1 ", "1\n", "\t1", "1x", "x1", "1_000", "1,000", "1.5", "1/2", "0x10", "1e3", "ten",
		"1\x00", "\x00", "\xff", "1\xff2", "\xc0\xb1", "\u0661", "1\u0662", "\uff11", "\u0967", "\u00b2", "1\u20ac", "\U0001d7d9",
	} {
		a, e := digits.Parse(text)
		isError(t, "Parse of "+text, a, e, api.ErrForm)
	}
	long := strings.Repeat("7", maxDigits+1)
	for _, text := range []string{"x" + long, long + "x", long[:2500] + "-" + long[2500:], "-" + long, strings.Repeat("x", maxDigits+1)} {
		a, e := digits.Parse(text)
		isError(t, "too long, and no digits", a, e, api.ErrForm)
	}
	for b := range 256 { // each byte, at the beginning, within, and at the end
		for at := range 4 {
			text := "123"[:at] + string([]byte{byte(b)}) + "123"[at:]
			a, e := digits.Parse(text)
			if b >= '0' && b <= '9' {
				isNumber(t, text, a, e, toBig(ofText(t, text)))
			} else {
				isError(t, "Parse with another byte", a, e, api.ErrForm)
			}
		}
	}
}

// P2.2

func TestTen(t *testing.T) {
	want := big.NewInt(1)
	for n := range mostTen + 1 {
		a, e := digits.Ten(n)
		isNumber(t, "Ten", a, e, want)
		want.Mul(want, big.NewInt(10))
	}
	for _, n := range []int{mostTen + 1, mostTen + 2, 5000, 16384, 1 << 20, math.MaxInt32, math.MaxInt - 17, math.MaxInt} {
		a, e := digits.Ten(n)
		isError(t, "Ten of too much", a, e, api.ErrLimbs)
	}
	for _, n := range []int{-1, -2, -18, -5000, math.MinInt32, math.MinInt} {
		a, e := digits.Ten(n)
		isError(t, "Ten of less than nothing", a, e, api.ErrRange)
	}
}

// divides holds what divides two against the library's.
func divides(t *testing.T, a, b api.Nat) {
	t.Helper()
	isNumber(t, "Gcd", digits.Gcd(a, b), api.OK, new(big.Int).GCD(nil, nil, toBig(a), toBig(b)))
}

func TestGcd(t *testing.T) {
	for x := range uint64(40) {
		for y := range uint64(40) {
			divides(t, limbs.Of(x), limbs.Of(y))
		}
	}
	for _, a := range numbers() {
		for _, b := range numbers() {
			divides(t, a, b)
		}
	}
	if digits.Text(digits.Gcd(limbs.Of(84), limbs.Of(36))) != "12" || len(digits.Gcd(nil, nil)) != 0 {
		t.Error("of 84 and 36, and of nothing twice")
	}
}

func TestGcdOfMultiples(t *testing.T) {
	for i, n := range []int{1, 2, 3, 10, 50, 170} { // a divisor in common, small or great, even or odd
		for _, common := range []api.Nat{{6}, {0, 1}, {1 << 31}, mixed(n, uint64(i)), append(api.Nat{0, 0, 8}, mixed(n, 3)...)} {
			a, _ := limbs.Mul(common, mixed(n, 100))
			b, _ := limbs.Mul(common, mixed(n+1, 200))
			divides(t, a, b)
			divides(t, b, a)
			divides(t, a, common)
			divides(t, common, b)
		}
	}
	x, y := big.NewInt(1), big.NewInt(1)
	for x.BitLen() < 32*maxLimbs { // each number and the one ahead of it: the longest way to 1
		x, y = new(big.Int).Add(x, y), x
	}
	divides(t, ofBig(x), ofBig(y))
	divides(t, ofBig(y), ofBig(x))
}

// P1

func TestNoCallPanics(t *testing.T) {
	list := append(wrong(), nil, api.Nat{1}, full(maxLimbs, math.MaxUint32))
	for _, a := range list {
		x := slices.Clone(a)
		digits.Text(a)
		for _, b := range list {
			digits.Gcd(a, b)
		}
		if !slices.Equal(a, x) {
			t.Errorf("%d digits were changed", len(x))
		}
	}
	for _, text := range []string{strings.Repeat("1", 1<<22), strings.Repeat("x", 1<<22), strings.Repeat("\xff", 100)} {
		digits.Parse(text)
	}
}

// P2

// roomy is a copy with spare room, that isn't empty.
func roomy(a api.Nat) api.Nat {
	b := append(slices.Clone(a), 77, 78, 79, 80)
	return b[:len(a)]
}

// whole is a list with its spare room.
func whole(a api.Nat) api.Nat { return a[:cap(a)] }

// spoil writes over a list, and its spare room.
func spoil(a api.Nat) {
	for i := range whole(a) {
		whole(a)[i] ^= 0xa5a5a5a5
	}
}

// apart tells whether the answers of a call are memory of their own, each time.
func apart(t *testing.T, name string, do func() api.Nat) {
	t.Helper()
	first, second := do(), do()
	kept := slices.Clone(first)
	spoil(second)
	if third := do(); !slices.Equal(first, kept) || !slices.Equal(third, kept) {
		t.Fatalf("%s: answers share memory", name)
	}
	spoil(first)
	if third := do(); !slices.Equal(third, kept) {
		t.Fatalf("%s keeps what it answered", name)
	}
}

func TestMemory(t *testing.T) {
	for _, n := range []int{0, 1, 9, 10, 18, 19, 36, 100} {
		apart(t, "Ten", func() api.Nat {
			a, _ := digits.Ten(n)
			return a
		})
		apart(t, "Parse", func() api.Nat {
			a, _ := digits.Parse("1" + strings.Repeat("0", n))
			return a
		})
	}
	list := []api.Nat{nil, {1}, {6}, {0, 1}, {0, 0, 1}, mixed(3, 1), mixed(9, 2)}
	for _, a := range list {
		for _, b := range list {
			x, y := roomy(a), roomy(b)
			wholeX, wholeY := slices.Clone(whole(x)), slices.Clone(whole(y))
			apart(t, "Gcd", func() api.Nat { return digits.Gcd(x, y) })
			text := digits.Text(x)
			if !slices.Equal(whole(x), wholeX) || !slices.Equal(whole(y), wholeY) {
				t.Fatal("what was handed in was changed, or is shared")
			}
			got := digits.Gcd(x, y)
			kept := slices.Clone(got)
			spoil(x)
			spoil(y)
			if !slices.Equal(got, kept) || text != toBig(a).String() {
				t.Fatal("what was handed in is kept")
			}
		}
		x := roomy(a)
		if got := digits.Gcd(x, x); !slices.Equal(got, a) || len(a) > 0 && &got[0] == &x[0] {
			t.Error("of one number twice")
		}
	}
}
