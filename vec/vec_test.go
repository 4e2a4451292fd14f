package vec_test

import (
	"math"
	"math/big"
	"slices"
	"strings"
	"testing"

	"girdle/api"
	"girdle/limbs"
	"girdle/ratio"
	"girdle/vec"
	"girdle/whole"
)

// The bounds as the document tells them.
const (
	limbBits = 32 * 512
	maxDim   = 16
)

// rats is a list of a text: ratios with blanks between.
func rats(text string) []api.Rat {
	list := []api.Rat{}
	for _, word := range strings.Fields(text) {
		x, e := ratio.Parse(word)
		if e != api.OK {
			panic("a test's ratio is wrong")
		}
		list = append(list, x)
	}
	return list
}

// text is a list's ratios with blanks between.
func text(list []api.Rat) string {
	var words []string
	for _, x := range list {
		words = append(words, ratio.Text(x))
	}
	return strings.Join(words, " ")
}

// toBig is a ratio as the library has it.
func toBig(a api.Rat) *big.Rat {
	x, ok := new(big.Rat).SetString(ratio.Text(a))
	if !ok {
		panic("a ratio's text is wrong")
	}
	return x
}

// power is 2 to the power of n; below 0 that of one of its size.
func power(n int) api.Rat {
	size, e := limbs.Left(limbs.Of(1), max(n, -n))
	if e != api.OK {
		panic("a test's number is beyond the bounds")
	}
	if n < 0 {
		return api.Rat{Num: whole.Of(1), Den: size}
	}
	return ratio.Whole(whole.Nat(size))
}

// mixed is so many ratios that look like no others, the same in every run.
func mixed(n int, seed uint64) []api.Rat {
	list := make([]api.Rat, n)
	for i := range list {
		seed = seed*6364136223846793005 + 1442695040888963407
		list[i] = ratio.Of(int64(seed>>40)-1<<23, int64(seed>>20&1023)+1)
	}
	return list
}

// changed is a list with another ratio at one place.
func changed(list []api.Rat, at int, x api.Rat) []api.Rat {
	list = slices.Clone(list)
	list[at] = x
	return list
}

// is tells whether a call's answer is those ratios, each in its form; with an error there are to be none.
func is(t *testing.T, what string, got []api.Rat, e api.Errno, want string, wantE api.Errno) {
	t.Helper()
	if e != wantE {
		t.Fatalf("%s: error %d, not %d", what, e, wantE)
	}
	if len(got) > 0 && e != api.OK {
		t.Fatalf("%s: ratios beside error %d", what, e)
	}
	if text(got) != want {
		t.Fatalf("%s: %.200s, not %.200s", what, text(got), want)
	}
	for _, x := range got {
		if f := ratio.Check(x); f != api.OK {
			t.Fatalf("%s: a ratio that can't be: error %d", what, f)
		}
	}
}

// number tells whether a call's answer is that ratio; with an error it is to be 0.
func number(t *testing.T, what string, got api.Rat, e api.Errno, want string, wantE api.Errno) {
	t.Helper()
	if e != wantE {
		t.Fatalf("%s: error %d, not %d", what, e, wantE)
	}
	if e != api.OK {
		want = "0"
	}
	if ratio.Text(got) != want || ratio.Check(got) != api.OK {
		t.Fatalf("%s: %.80s, not %.80s", what, ratio.Text(got), want)
	}
}

// wrong is what can't be ratios.
func wrong() []api.Rat {
	var list []api.Rat
	for _, num := range []api.Int{{}, {Minus: true}, {Size: api.Nat{0}}, {Minus: true, Size: api.Nat{6, 0}}, {Size: slices.Repeat(api.Nat{3}, 600)}} {
		for _, den := range []api.Nat{nil, {0}, {9}, slices.Repeat(api.Nat{5}, 513), slices.Repeat(api.Nat{0}, 2000)} {
			list = append(list, api.Rat{Num: num, Den: den})
		}
	}
	return list
}

// P7.1

func TestZeroAndUnit(t *testing.T) {
	if vec.MaxDim != maxDim {
		t.Fatalf("MaxDim is %d", vec.MaxDim)
	}
	sizes := map[int]int{math.MinInt: 0, -17: 0, -1: 0, 0: 0, 1: 1, 2: 2, 7: 7, 15: 15, 16: 16, 17: 16, 1000: 16, math.MaxInt: 16}
	for n, size := range sizes {
		zeros := slices.Repeat([]string{"0"}, size)
		is(t, "Zero", vec.Zero(n), api.OK, strings.Join(zeros, " "), api.OK)
		for at := -2; at < maxDim+2; at++ {
			want := slices.Clone(zeros)
			if at >= 0 && at < size {
				want[at] = "1"
			}
			is(t, "Unit", vec.Unit(n, at), api.OK, strings.Join(want, " "), api.OK)
		}
		for _, at := range []int{math.MinInt, -1 << 32, 1 << 32, math.MaxInt} {
			is(t, "Unit at no place", vec.Unit(n, at), api.OK, strings.Join(zeros, " "), api.OK)
		}
	}
}

func TestCheck(t *testing.T) {
	for size := range maxDim + 3 {
		for n := -2; n < maxDim+3; n++ {
			want := api.ErrShape
			if n == size && size <= maxDim {
				want = api.OK
			}
			if e := vec.Check(mixed(size, 1), n); e != want {
				t.Errorf("%d, not %d: error %d", size, n, e)
			}
		}
	}
	for _, n := range []int{math.MinInt, -1, 1, maxDim + 1, math.MaxInt} {
		if e := vec.Check(nil, n); e != api.ErrShape {
			t.Errorf("none, not %d: error %d", n, e)
		}
	}
	if e := vec.Check(nil, 0); e != api.OK {
		t.Errorf("none: error %d", e)
	}
}

func TestCheckOfNumbers(t *testing.T) {
	halves := api.Rat{Num: whole.Of(2), Den: api.Nat{4}}
	long := api.Rat{Num: whole.Of(1), Den: slices.Repeat(api.Nat{3}, 513)}
	for _, a := range append(wrong(), halves, long) {
		for at := range maxDim {
			if e := vec.Check(changed(mixed(maxDim, 2), at, a), maxDim); e != ratio.Check(a) || e == api.OK {
				t.Errorf("at the place %d: error %d, not %d", at, e, ratio.Check(a))
			}
		}
		if e := vec.Check([]api.Rat{a, a}, 1); e != api.ErrShape {
			t.Errorf("the length is told of first, not error %d", e)
		}
		if e := vec.Check(slices.Repeat([]api.Rat{a}, maxDim+1), maxDim+1); e != api.ErrShape {
			t.Errorf("the bound is told of first, not error %d", e)
		}
	}
	if e := vec.Check([]api.Rat{ratio.Zero(), halves, long}, 3); e != api.ErrForm {
		t.Errorf("the first error isn't told: %d", e)
	}
	if e := vec.Check([]api.Rat{ratio.Zero(), long, halves}, 3); e != api.ErrLimbs {
		t.Errorf("the first error isn't told: %d", e)
	}
}

// P7.2

func TestReckoning(t *testing.T) {
	a, b := rats("1 2/3 -5 0 7/2"), rats("4 -1/6 5 0 -1/2")
	got, e := vec.Add(a, b)
	is(t, "Add", got, e, "5 1/2 0 0 3", api.OK)
	got, e = vec.Sub(a, b)
	is(t, "Sub", got, e, "-3 5/6 -10 0 4", api.OK)
	got, e = vec.Scale(a, ratio.Of(-3, 2))
	is(t, "Scale", got, e, "-3/2 -1 15/2 0 -21/4", api.OK)
	got, e = vec.Scale(a, ratio.Zero())
	is(t, "Scale by nothing", got, e, "0 0 0 0 0", api.OK)
	x, e := vec.Dot(a, b)
	number(t, "Dot", x, e, "-823/36", api.OK)
	x, e = vec.Dot(rats("1 1/2"), rats("2 -4"))
	number(t, "Dot", x, e, "0", api.OK)
}

func TestReckoningOfAllLengths(t *testing.T) {
	for n := range 40 {
		a, b, by := mixed(n, 3), mixed(n, uint64(n)), ratio.Of(-7, 12)
		sum, e := vec.Add(a, b)
		left, f := vec.Sub(a, b)
		times, g := vec.Scale(a, by)
		dot, h := vec.Dot(a, b)
		if e != api.OK || f != api.OK || g != api.OK || h != api.OK || len(sum) != n || len(left) != n || len(times) != n {
			t.Fatalf("of %d: errors %d, %d, %d, %d", n, e, f, g, h)
		}
		all := new(big.Rat)
		for i := range n {
			x, y := toBig(a[i]), toBig(b[i])
			all.Add(all, new(big.Rat).Mul(x, y))
			if toBig(sum[i]).Cmp(new(big.Rat).Add(x, y)) != 0 || toBig(left[i]).Cmp(new(big.Rat).Sub(x, y)) != 0 || toBig(times[i]).Cmp(new(big.Rat).Mul(x, toBig(by))) != 0 {
				t.Fatalf("at the place %d of %d", i, n)
			}
		}
		if toBig(dot).Cmp(all) != 0 {
			t.Fatalf("Dot of %d: %s, not %s", n, ratio.Text(dot), all)
		}
	}
}

func TestUnlikeLengths(t *testing.T) {
	great := power(limbBits - 1)
	for n := range maxDim + 2 {
		for m := range maxDim + 2 {
			if n == m {
				continue
			}
			// What has no room is told of behind the lengths.
			a, b := slices.Repeat([]api.Rat{great}, n), slices.Repeat([]api.Rat{great}, m)
			got, e := vec.Add(a, b)
			is(t, "Add", got, e, "", api.ErrShape)
			got, e = vec.Sub(a, b)
			is(t, "Sub", got, e, "", api.ErrShape)
			x, e := vec.Dot(a, b)
			number(t, "Dot", x, e, "0", api.ErrShape)
			if vec.Same(a, b) {
				t.Errorf("%d and %d are the same", n, m)
			}
		}
	}
}

func TestNoRoom(t *testing.T) {
	great, small := power(limbBits-1), power(1-limbBits)
	for at := range 5 {
		a, b := changed(mixed(5, 4), at, great), changed(mixed(5, 5), at, great)
		got, e := vec.Add(a, b)
		is(t, "Add", got, e, "", api.ErrLimbs)
		got, e = vec.Sub(a, changed(b, at, ratio.Neg(great)))
		is(t, "Sub", got, e, "", api.ErrLimbs)
		got, e = vec.Scale(a, ratio.Of(2, 1))
		is(t, "Scale", got, e, "", api.ErrLimbs)
		x, e := vec.Dot(a, b)
		number(t, "Dot", x, e, "", api.ErrLimbs)
		got, e = vec.Scale(changed(a, at, small), ratio.Of(1, 2))
		is(t, "Scale", got, e, "", api.ErrLimbs)
	}
	// Each product has room, not so all together.
	x, e := vec.Dot([]api.Rat{great, great}, rats("1 1"))
	number(t, "Dot", x, e, "", api.ErrLimbs)
	x, e = vec.Dot([]api.Rat{great, ratio.Neg(great), great}, rats("1 1 1"))
	number(t, "Dot from the first place on", x, e, ratio.Text(great), api.OK)
	x, e = vec.Dot([]api.Rat{great, great, ratio.Neg(great)}, rats("1 1 1"))
	number(t, "Dot from the first place on", x, e, "", api.ErrLimbs)
}

func TestSame(t *testing.T) {
	for n := range maxDim + 2 {
		a := mixed(n, 6)
		if !vec.Same(a, a) || !vec.Same(a, mixed(n, 6)) {
			t.Errorf("%d aren't the same", n)
		}
		for at := range n {
			more, _ := ratio.Add(a[at], ratio.Of(1, 1<<40))
			next, _ := ratio.Add(a[at], ratio.Of(1, 1))
			for _, x := range []api.Rat{more, next, ratio.Neg(a[at]), {Num: a[at].Num, Den: api.Nat{1, 1}}, power(limbBits - 1)} {
				if vec.Same(a, changed(a, at, x)) || vec.Same(changed(a, at, x), a) {
					t.Errorf("unlike at the place %d of %d: they are the same", at, n)
				}
			}
		}
	}
	if !vec.Same(nil, []api.Rat{}) || !vec.Same([]api.Rat{}, nil) || vec.Same(nil, rats("0")) {
		t.Error("none")
	}
	// There is no room to hold these against each other by products.
	great := []api.Rat{power(limbBits - 1), power(1 - limbBits)}
	if !vec.Same(great, slices.Clone(great)) || vec.Same(great, []api.Rat{great[1], great[0]}) || vec.Same(great, []api.Rat{great[0], power(2 - limbBits)}) {
		t.Error("great ratios")
	}
	if !vec.Same(rats("0.50 -2/4 0/3"), rats("1/2 -0.5 -0")) {
		t.Error("ratios told otherwise")
	}
}

// P1

func TestNoCallPanics(t *testing.T) {
	lists := [][]api.Rat{nil, {}, rats("1/3"), rats("-1 2"), {power(limbBits - 1), power(1 - limbBits)}, slices.Repeat(rats("7/3"), 300)}
	for i, a := range wrong() {
		lists = append(lists, []api.Rat{a}, []api.Rat{a, wrong()[i*7%25]})
	}
	for _, a := range lists {
		for _, n := range []int{math.MinInt, -1, 0, 1, 2, maxDim, math.MaxInt} {
			vec.Check(a, n)
			vec.Near(a, n)
		}
		for _, by := range append(wrong(), ratio.Of(2, 3)) {
			vec.Scale(a, by)
		}
		for _, b := range lists {
			vec.Add(a, b)
			vec.Sub(a, b)
			vec.Dot(a, b)
			vec.Same(a, b)
		}
	}
}
