package dyad_test

import (
	"math/big"
	"slices"
	"testing"

	"girdle/api"
	"girdle/dyad"
	"girdle/ratio"
)

// P2

// call is a call of two numbers, or of one; its answer is all lists of what it answered.
type call struct {
	name string
	do   func(a, b api.Dyad) []api.Nat
}

// calls is all calls that answer numbers.
func calls() []call {
	one := func(f func(a api.Dyad) api.Dyad) func(a, b api.Dyad) []api.Nat {
		return func(a, b api.Dyad) []api.Nat { return []api.Nat{f(a).Man.Size} }
	}
	two := func(f func(a, b api.Dyad) api.Dyad) func(a, b api.Dyad) []api.Nat {
		return func(a, b api.Dyad) []api.Nat { return []api.Nat{f(a, b).Man.Size} }
	}
	both := func(f func(a, b api.Dyad) (api.Dyad, api.Errno)) func(a, b api.Dyad) []api.Nat {
		return func(a, b api.Dyad) []api.Nat {
			c, _ := f(a, b)
			return []api.Nat{c.Man.Size}
		}
	}
	list := []call{
		{"Of", one(func(a api.Dyad) api.Dyad { return dyad.Of(-1<<40-5, 3) })},
		{"Make", both(func(a, b api.Dyad) (api.Dyad, api.Errno) { return dyad.Make(a.Man, a.Exp) })},
		{"Make of an even one", both(func(a, b api.Dyad) (api.Dyad, api.Errno) {
			return dyad.Make(api.Int{Size: append(api.Nat{0, 8}, a.Man.Size...)}, 1)
		})},
		{"Neg", one(dyad.Neg)},
		{"Abs", one(dyad.Abs)},
		{"Add", both(dyad.Add)},
		{"Sub", both(dyad.Sub)},
		{"Mul", both(dyad.Mul)},
		{"Max", two(dyad.Max)},
		{"Min", two(dyad.Min)},
		{"Ratio", func(a, b api.Dyad) []api.Nat {
			r, _ := dyad.Ratio(a)
			return []api.Nat{r.Num.Size, r.Den}
		}},
	}
	for _, bits := range []int{1, 2, 33, 4096} {
		for _, up := range []bool{false, true} {
			list = append(list,
				call{"Round", both(func(a, b api.Dyad) (api.Dyad, api.Errno) { return dyad.Round(a, bits, up) })},
				call{"Near", both(func(a, b api.Dyad) (api.Dyad, api.Errno) {
					return dyad.Near(api.Rat{Num: a.Man, Den: b.Man.Size}, bits, up)
				})})
		}
	}
	return list
}

// roomy is a number whose list has spare room, that isn't empty.
func roomy(a api.Dyad) api.Dyad {
	a.Man.Size = append(slices.Clone(a.Man.Size), 77, 78, 79, 80)[:len(a.Man.Size)]
	return a
}

// spoil writes over a list, and its spare room.
func spoil(a api.Nat) {
	a = a[:cap(a)]
	for i := range a {
		a[i] ^= 0xa5a5a5a5
	}
}

// copies is copies of lists; with their spare room, if that is asked for.
func copies(a []api.Nat, spare bool) []api.Nat {
	var b []api.Nat
	for _, x := range a {
		if spare {
			x = x[:cap(x)]
		}
		b = append(b, slices.Clone(x))
	}
	return b
}

// equal holds lists against each other.
func equal(a, b []api.Nat) bool {
	return slices.EqualFunc(a, b, func(x, y api.Nat) bool { return slices.Equal(x, y) })
}

// apart tells whether a call leaves its arguments alone, and whether its answers are memory of their own.
func apart(t *testing.T, c call, x, y num) {
	t.Helper()
	a, b := roomy(x.dyad()), roomy(y.dyad())
	handed := []api.Nat{a.Man.Size, b.Man.Size}
	were := copies(handed, true)
	first := c.do(a, b)
	kept := copies(first, false)
	for i := range first {
		earlier, spoilt := c.do(a, b), c.do(a, b)
		spoil(spoilt[i])
		for j := range spoilt {
			if j != i && !slices.Equal(spoilt[j], kept[j]) {
				t.Fatalf("%s: what it answers shares memory", c.name)
			}
		}
		if !equal(copies(handed, true), were) {
			t.Fatalf("%s: what was handed in is changed, or shared with an answer", c.name)
		}
		if !equal(earlier, kept) || !equal(c.do(a, b), kept) {
			t.Fatalf("%s: answers of two calls share memory", c.name)
		}
	}
	for _, list := range handed {
		spoil(list)
	}
	if !equal(first, kept) {
		t.Fatalf("%s keeps what was handed in", c.name)
	}
}

func TestMemory(t *testing.T) {
	list := append(small(), num{power(96, 1), -3}, num{power(64, 1), 20000}, n(1, maxExp), n(1, -maxExp))
	for _, c := range calls() {
		for _, x := range list {
			for _, y := range list {
				apart(t, c, x, y)
			}
		}
	}
}

// TestOneNumberTwice hands in the same memory as both numbers.
func TestOneNumberTwice(t *testing.T) {
	for _, x := range small() {
		a := x.dyad()
		got, e := dyad.Add(a, a)
		answers(t, "Add", got, e, num{x.man, x.exp + 1}, api.OK)
		got, e = dyad.Sub(a, a)
		answers(t, "Sub", got, e, n(0, 0), api.OK)
		got, e = dyad.Mul(a, a)
		answers(t, "Mul", got, e, num{new(big.Int).Mul(x.man, x.man), 2 * x.exp}, api.OK)
		compares(t, x, x)
	}
}

func TestCmpLeavesItsArgumentsAlone(t *testing.T) {
	for _, x := range small() {
		a, r := x.dyad(), ratio.Of(-5, 12)
		dyad.Cmp(a, r)
		dyad.Near(r, 5, true)
		same(t, "Cmp", a, x)
		if ratio.Text(r) != "-5/12" {
			t.Error("a ratio was changed")
		}
	}
}
