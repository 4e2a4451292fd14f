package ratio_test

import (
	"math/big"
	"slices"
	"testing"

	"girdle/api"
	"girdle/ratio"
)

// P2

// call is a call of two ratios, or of one; its answer is all lists of what it answered.
type call struct {
	name string
	do   func(a, b api.Rat) []api.Nat
}

// lists is the lists of a ratio.
func lists(a api.Rat) []api.Nat { return []api.Nat{a.Num.Size, a.Den} }

// calls is all calls that answer numbers.
func calls() []call {
	one := func(f func(a api.Rat) api.Rat) func(a, b api.Rat) []api.Nat {
		return func(a, b api.Rat) []api.Nat { return lists(f(a)) }
	}
	number := func(f func(a api.Rat) api.Int) func(a, b api.Rat) []api.Nat {
		return func(a, b api.Rat) []api.Nat { return []api.Nat{f(a).Size} }
	}
	both := func(f func(a, b api.Rat) (api.Rat, api.Errno)) func(a, b api.Rat) []api.Nat {
		return func(a, b api.Rat) []api.Nat {
			c, _ := f(a, b)
			return lists(c)
		}
	}
	parse := func(s string) func(a, b api.Rat) []api.Nat {
		return both(func(a, b api.Rat) (api.Rat, api.Errno) { return ratio.Parse(s) })
	}
	return []call{
		{"Zero", one(func(a api.Rat) api.Rat { return ratio.Zero() })},
		{"Of", one(func(a api.Rat) api.Rat { return ratio.Of(-7, 1<<40) })},
		{"Of by nothing", one(func(a api.Rat) api.Rat { return ratio.Of(1, 0) })},
		{"Whole", one(func(a api.Rat) api.Rat { return ratio.Whole(a.Num) })},
		{"Neg", one(ratio.Neg)},
		{"Abs", one(ratio.Abs)},
		{"Make", both(func(a, b api.Rat) (api.Rat, api.Errno) { return ratio.Make(a.Num, b.Num) })},
		{"Make of one number", both(func(a, b api.Rat) (api.Rat, api.Errno) { return ratio.Make(a.Num, a.Num) })},
		{"Add", both(ratio.Add)},
		{"Sub", both(ratio.Sub)},
		{"Mul", both(ratio.Mul)},
		{"Div", both(ratio.Div)},
		{"Sum", both(func(a, b api.Rat) (api.Rat, api.Errno) { return ratio.Sum(a, b) })},
		{"Sum of one", both(func(a, b api.Rat) (api.Rat, api.Errno) { return ratio.Sum(a) })},
		{"Sum of none", both(func(a, b api.Rat) (api.Rat, api.Errno) { return ratio.Sum() })},
		{"Floor", number(ratio.Floor)},
		{"Ceil", number(ratio.Ceil)},
		{"Parse", parse("-6/35")},
		{"Parse of places", parse("-6.75")},
		{"Parse of a whole number", parse("-12345678901234567890")},
		{"Parse of none", parse("x")},
	}
}

// roomy is a list with spare room, that isn't empty.
func roomy(a api.Nat) api.Nat { return append(slices.Clone(a), 77, 78, 79, 80)[:len(a)] }

// spoil writes over a list, and its spare room.
func spoil(a api.Nat) {
	a = a[:cap(a)]
	for i := range a {
		a[i] ^= 0xa5a5a5a5
	}
}

// copies is copies of lists; with their spare room, if that is asked for.
func copies(a []api.Nat, spare bool) []api.Nat {
	var b []api.Nat
	for _, x := range a {
		if spare {
			x = x[:cap(x)]
		}
		b = append(b, slices.Clone(x))
	}
	return b
}

// equal holds lists against each other.
func equal(a, b []api.Nat) bool {
	return slices.EqualFunc(a, b, func(x, y api.Nat) bool { return slices.Equal(x, y) })
}

// apart tells whether a call leaves its arguments alone, and whether its answers are memory of their own.
func apart(t *testing.T, c call, x, y *big.Rat) {
	t.Helper()
	a, b := ofRat(x), ofRat(y)
	a.Num.Size, a.Den, b.Num.Size, b.Den = roomy(a.Num.Size), roomy(a.Den), roomy(b.Num.Size), roomy(b.Den)
	handed := append(lists(a), lists(b)...)
	were := copies(handed, true)
	first := c.do(a, b)
	kept := copies(first, false)
	for i := range first {
		earlier, spoilt := c.do(a, b), c.do(a, b)
		spoil(spoilt[i])
		for j := range spoilt {
			if j != i && !slices.Equal(spoilt[j], kept[j]) {
				t.Fatalf("%s: what it answers shares memory", c.name)
			}
		}
		if !equal(copies(handed, true), were) {
			t.Fatalf("%s: what was handed in is changed, or shared with an answer", c.name)
		}
		if !equal(earlier, kept) || !equal(c.do(a, b), kept) {
			t.Fatalf("%s: answers of two calls share memory", c.name)
		}
	}
	for _, list := range handed {
		spoil(list)
	}
	if !equal(first, kept) {
		t.Fatalf("%s keeps what was handed in", c.name)
	}
}

func TestMemory(t *testing.T) {
	list := append(small()[:11], big.NewRat(-355, 113), new(big.Rat).SetInt(power(96, 1)), new(big.Rat).SetFrac(power(64, 1), power(96, 0)))
	for _, c := range calls() {
		for _, x := range list {
			for _, y := range list {
				apart(t, c, x, y)
			}
		}
	}
}

func TestSumLeavesItsListAlone(t *testing.T) {
	list := []api.Rat{ratio.Of(3, 4), ratio.Of(-5, 6), ratio.Zero(), ratio.Of(1, 1<<40)}
	var were []*big.Rat
	for _, a := range list {
		were = append(were, toRat(a))
	}
	_, e := ratio.Sum(list...)
	for i, a := range list {
		if e != api.OK || toRat(a).Cmp(were[i]) != 0 {
			t.Errorf("the place %d was changed, or error %d", i, e)
		}
	}
}

// TestOneRatioTwice hands in the same memory as both ratios.
func TestOneRatioTwice(t *testing.T) {
	for _, x := range small() {
		a := ofRat(x)
		got, e := ratio.Add(a, a)
		answers(t, "Add", got, e, new(big.Rat).Add(x, x), api.OK)
		got, e = ratio.Sub(a, a)
		answers(t, "Sub", got, e, new(big.Rat), api.OK)
		got, e = ratio.Mul(a, a)
		answers(t, "Mul", got, e, new(big.Rat).Mul(x, x), api.OK)
		if x.Sign() != 0 {
			got, e = ratio.Div(a, a)
			answers(t, "Div", got, e, big.NewRat(1, 1), api.OK)
		}
		compares(t, x, x, api.OK)
	}
}
