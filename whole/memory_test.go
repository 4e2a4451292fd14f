package whole_test

import (
	"math/big"
	"slices"
	"testing"

	"girdle/api"
	"girdle/whole"
)

// P2

// call is a call of two numbers, or of one.
type call struct {
	name string
	do   func(a, b api.Int) []api.Int
}

// calls is all calls that answer numbers.
func calls() []call {
	one := func(f func(a api.Int) api.Int) func(a, b api.Int) []api.Int {
		return func(a, b api.Int) []api.Int { return []api.Int{f(a)} }
	}
	both := func(f func(a, b api.Int) (api.Int, api.Errno)) func(a, b api.Int) []api.Int {
		return func(a, b api.Int) []api.Int {
			c, _ := f(a, b)
			return []api.Int{c}
		}
	}
	list := []call{
		{"Of", one(func(a api.Int) api.Int { return whole.Of(-1<<40 - 5) })},
		{"Nat", one(func(a api.Int) api.Int { return whole.Nat(a.Size) })},
		{"Neg", one(whole.Neg)},
		{"Abs", one(whole.Abs)},
		{"Add", both(whole.Add)},
		{"Sub", both(whole.Sub)},
		{"Mul", both(whole.Mul)},
		{"Sum", both(func(a, b api.Int) (api.Int, api.Errno) { return whole.Sum(a, b) })},
		{"Sum of one", both(func(a, b api.Int) (api.Int, api.Errno) { return whole.Sum(a) })},
		{"Parse", both(func(a, b api.Int) (api.Int, api.Errno) { return whole.Parse("-123456789012345678901234567890") })},
		{"Div", func(a, b api.Int) []api.Int {
			often, left, _ := whole.Div(a, b)
			return []api.Int{often, left}
		}},
	}
	for _, n := range []int{0, 1, 32, 64} {
		list = append(list,
			call{"Left", both(func(a, b api.Int) (api.Int, api.Errno) { return whole.Left(a, n) })},
			call{"Right", both(func(a, b api.Int) (api.Int, api.Errno) { return whole.Right(a, n) })})
	}
	return list
}

// roomy is a number whose digits have spare room, that isn't empty.
func roomy(n *big.Int) api.Int {
	a := ofBig(n)
	size := append(slices.Clone(a.Size), 77, 78, 79, 80)
	return api.Int{Minus: a.Minus, Size: size[:len(a.Size)]}
}

// room is a number's digits with their spare room.
func room(a api.Int) api.Nat { return a.Size[:cap(a.Size)] }

// spoil writes over a number's digits, and their spare room.
func spoil(a api.Int) {
	for i := range room(a) {
		room(a)[i] ^= 0xa5a5a5a5
	}
}

// bigs is numbers as the library has them.
func bigs(list []api.Int) []*big.Int {
	var out []*big.Int
	for _, a := range list {
		out = append(out, toBig(a))
	}
	return out
}

// equal tells whether numbers are as they were.
func equal(list []api.Int, were []*big.Int) bool {
	return slices.EqualFunc(bigs(list), were, func(x, y *big.Int) bool { return x.Cmp(y) == 0 })
}

// apart tells whether a call leaves its arguments alone, and whether its answers are memory of their own.
func apart(t *testing.T, c call, x, y *big.Int) {
	t.Helper()
	a, b := roomy(x), roomy(y)
	roomA, roomB := slices.Clone(room(a)), slices.Clone(room(b))
	untouched := func() bool {
		return slices.Equal(room(a), roomA) && slices.Equal(room(b), roomB) && a.Minus == (x.Sign() < 0) && b.Minus == (y.Sign() < 0)
	}
	first := c.do(a, b)
	kept := bigs(first)
	if !untouched() {
		t.Fatalf("%s changed what was handed in", c.name)
	}
	for i := range first {
		earlier, spoilt := c.do(a, b), c.do(a, b)
		spoil(spoilt[i])
		for j := range spoilt {
			if j != i && toBig(spoilt[j]).Cmp(kept[j]) != 0 {
				t.Fatalf("%s: its answers share memory", c.name)
			}
		}
		if !untouched() {
			t.Fatalf("%s: an answer shares memory with what was handed in", c.name)
		}
		if !equal(earlier, kept) || !equal(c.do(a, b), kept) {
			t.Fatalf("%s: answers of two calls share memory", c.name)
		}
	}
	spoil(a)
	spoil(b)
	if !equal(first, kept) {
		t.Fatalf("%s keeps what was handed in", c.name)
	}
}

func TestMemory(t *testing.T) {
	list := []*big.Int{new(big.Int), big.NewInt(1), big.NewInt(-1), big.NewInt(6), big.NewInt(-7), power(32, 0), power(64, 1), new(big.Int).Neg(power(96, -1)), mixed(6, 2)}
	for _, c := range calls() {
		for _, x := range list {
			for _, y := range list {
				apart(t, c, x, y)
			}
		}
	}
}

func TestSumLeavesItsListAlone(t *testing.T) {
	list := []api.Int{whole.Of(3), whole.Of(-4), whole.Of(1 << 40), {}}
	were := bigs(list)
	if _, e := whole.Sum(list...); e != api.OK || !equal(list, were) {
		t.Error("the list was changed")
	}
}

// TestOneNumberTwice hands in the same memory as both numbers.
func TestOneNumberTwice(t *testing.T) {
	for _, x := range numbers() {
		a := ofBig(x)
		got, e := whole.Add(a, a)
		answers(t, "Add", got, e, new(big.Int).Add(x, x))
		got, e = whole.Sub(a, a)
		answers(t, "Sub", got, e, new(big.Int))
		got, e = whole.Mul(a, a)
		answers(t, "Mul", got, e, new(big.Int).Mul(x, x))
		if whole.Compare(a, a) != 0 || !whole.Same(a, a) {
			t.Error("Compare and Same")
		}
		if x.Sign() != 0 {
			often, left, e := whole.Div(a, a)
			answers(t, "Div", often, e, big.NewInt(1))
			answers(t, "what Div leaves", left, e, new(big.Int))
		}
	}
}
