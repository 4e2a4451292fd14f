package span_test

import (
	"math"
	"slices"
	"testing"

	"girdle/api"
	"girdle/dyad"
	"girdle/ratio"
	"girdle/span"
	"girdle/whole"
)

// The bounds as the document tells them.
const (
	limbBits = 32 * 512
	maxExp   = 1 << 16
	maxBits  = 4096
)

// at is a number times 2 to the power of exp.
func at(n int64, exp int) api.Dyad {
	a, e := dyad.Make(whole.Of(n), exp)
	if e != api.OK {
		panic("a test's number is beyond the bounds")
	}
	return a
}

// most is the greatest number of 512 digits.
func most() api.Dyad {
	return api.Dyad{Man: api.Int{Size: slices.Repeat(api.Nat{math.MaxUint32}, 512)}}
}

// to is the span from one number to another one.
func to(lo, hi api.Dyad) api.Span { return api.Span{Lo: lo, Hi: hi} }

// of is the span from a small number to another one.
func of(lo, hi int64) api.Span { return to(at(lo, 0), at(hi, 0)) }

// few is the spans between small numbers from the first to the last.
func few(first, last int64) []api.Span {
	var list []api.Span
	for lo := first; lo <= last; lo++ {
		for hi := lo; hi <= last; hi++ {
			list = append(list, of(lo, hi))
		}
	}
	return list
}

// wide is spans whose ends are of many sizes, and signs.
func wide() []api.Span {
	ends := []api.Dyad{at(-1, maxExp), at(-math.MaxInt64, -3), at(-3, 40), at(-1, 0), at(-1, -maxExp), at(0, 0), at(1, -maxExp), at(5, -4), at(21, 0), at(math.MaxInt64, 30), at(1, maxExp)}
	var list []api.Span
	for i, lo := range ends {
		for _, hi := range ends[i:] {
			list = append(list, to(lo, hi))
		}
	}
	return append(list, to(dyad.Neg(most()), most()), to(most(), most()))
}

// small is an end as a number of 64 bits.
func small(t *testing.T, a api.Dyad) int64 {
	t.Helper()
	man, e := whole.Left(a.Man, a.Exp)
	n, f := whole.Small(man)
	if e != api.OK || f != api.OK {
		t.Fatalf("%x times 2^%d is no small number", a.Man.Size, a.Exp)
	}
	return n
}

// same tells whether an answer is that number, in its form.
func same(t *testing.T, what string, got, want api.Dyad) {
	t.Helper()
	if dyad.Check(got) != api.OK || dyad.Compare(got, want) != 0 {
		t.Fatalf("%s: %x (below 0: %t) times 2^%d, not %x (below 0: %t) times 2^%d", what, got.Man.Size, got.Man.Minus, got.Exp, want.Man.Size, want.Man.Minus, want.Exp)
	}
}

// is tells whether an answer is that span.
func is(t *testing.T, what string, got, want api.Span) {
	t.Helper()
	same(t, what+", the lower end", got.Lo, want.Lo)
	same(t, what+", the upper end", got.Hi, want.Hi)
}

// answers tells whether a call's answer is that span, or, with that error, 0 alone.
func answers(t *testing.T, what string, got api.Span, e api.Errno, want api.Span, wantE api.Errno) {
	t.Helper()
	if e != wantE {
		t.Fatalf("%s: error %d, not %d", what, e, wantE)
	}
	if wantE != api.OK {
		want = of(0, 0)
	}
	is(t, what, got, want)
}

// wrongBits is how many bits can't be rounded to.
func wrongBits() []int { return []int{math.MinInt, -1, 0, 1, maxBits + 1, math.MaxInt} }

// P6.1

func TestMake(t *testing.T) {
	for _, x := range append(few(-3, 3), wide()...) {
		got, e := span.Make(x.Lo, x.Hi)
		answers(t, "Make", got, e, x, api.OK)
		got, e = span.Make(x.Hi, x.Lo)
		want := api.ErrRange
		if dyad.Compare(x.Lo, x.Hi) == 0 {
			want = api.OK
		}
		answers(t, "Make the other way round", got, e, x, want)
	}
}

func TestCheck(t *testing.T) {
	for _, x := range append(few(-3, 3), wide()...) {
		if e := span.Check(x); e != api.OK {
			t.Errorf("%s: error %d", span.Text(x), e)
		}
	}
	even := api.Dyad{Man: whole.Of(6)}
	beyond := api.Dyad{Man: whole.Of(1), Exp: maxExp + 1}
	long := api.Dyad{Man: api.Int{Size: slices.Repeat(api.Nat{3}, 513)}}
	for i, x := range []struct {
		a    api.Span
		want api.Errno
	}{
		{of(1, 0), api.ErrRange},
		{of(0, -1), api.ErrRange},
		{to(at(1, 1), at(3, 0)), api.OK},
		{to(even, at(9, 0)), api.ErrForm},
		{to(at(1, 0), even), api.ErrForm},
		{to(beyond, at(1, 0)), api.ErrRange},
		{to(at(1, 0), beyond), api.ErrRange},
		{to(long, at(1, 0)), api.ErrLimbs},
		{to(at(1, 0), long), api.ErrLimbs},
		{to(even, long), api.ErrForm}, // the lower one's is told of first
		{to(long, even), api.ErrLimbs},
		{to(at(9, 0), even), api.ErrForm}, // ahead of which one is less
	} {
		if e := span.Check(x.a); e != x.want {
			t.Errorf("the span %d: error %d, not %d", i, e, x.want)
		}
	}
}

func TestPointAndEven(t *testing.T) {
	for _, a := range []api.Dyad{at(0, 0), at(1, 0), at(-1, 0), at(-5, -7), at(3, maxExp), at(-3, -maxExp), most(), dyad.Neg(most())} {
		is(t, "Point", span.Point(a), to(a, a))
		size := dyad.Abs(a)
		is(t, "Even", span.Even(a), to(dyad.Neg(size), size))
	}
}

func TestNear(t *testing.T) {
	for _, x := range []struct {
		a    api.Rat
		bits int
		want api.Span
	}{
		{ratio.Of(1, 3), 4, to(at(5, -4), at(11, -5))},
		{ratio.Of(-1, 3), 4, to(at(-11, -5), at(-5, -4))},
		{ratio.Of(1, 3), 2, to(at(1, -2), at(3, -3))},
		{ratio.Of(1000, 1), 4, of(960, 1024)},
		{ratio.Of(3, 8), 2, to(at(3, -3), at(3, -3))},
		{ratio.Zero(), 2, of(0, 0)},
		{ratio.Zero(), maxBits, of(0, 0)},
	} {
		got, e := span.Near(x.a, x.bits)
		answers(t, "Near", got, e, x.want, api.OK)
	}
	for above := int64(-20); above <= 20; above++ {
		for below := int64(1); below <= 20; below++ {
			a := ratio.Of(above, below)
			for _, bits := range []int{2, 3, 53, maxBits} {
				got, e := span.Near(a, bits)
				if has, f := span.HasRatio(got, a); e != api.OK || f != api.OK || !has || span.Check(got) != api.OK {
					t.Fatalf("Near of %s to %d bits: errors %d, %d", ratio.Text(a), bits, e, f)
				}
				lo, _ := dyad.Near(a, bits, false)
				hi, _ := dyad.Near(a, bits, true)
				is(t, "Near", got, to(lo, hi))
			}
		}
	}
}

func TestNearsErrors(t *testing.T) {
	for _, bits := range wrongBits() {
		for _, a := range []api.Rat{ratio.Zero(), ratio.Of(1, 3)} {
			got, e := span.Near(a, bits)
			answers(t, "Near to wrong bits", got, e, of(0, 0), api.ErrRange)
		}
	}
	got, e := span.Near(api.Rat{Num: whole.Of(1), Den: most().Man.Size}, maxBits)
	answers(t, "Near without room", got, e, of(0, 0), api.ErrLimbs)
}

func TestRound(t *testing.T) {
	for _, x := range []struct {
		a    api.Span
		bits int
		want api.Span
	}{
		{of(-21, 21), 3, of(-24, 24)},
		{of(21, 22), 3, of(20, 24)},
		{of(-22, -21), 3, of(-24, -20)},
		{of(20, 20), 3, of(20, 20)},
		{of(0, 31), 2, of(0, 32)},
		{of(-31, 0), 2, of(-32, 0)},
		{of(5, 7), 3, of(5, 7)},
	} {
		got, e := span.Round(x.a, x.bits)
		answers(t, "Round", got, e, x.want, api.OK)
	}
	for _, a := range few(-40, 40) {
		for bits := 2; bits < 7; bits++ {
			got, e := span.Round(a, bits)
			lo, _ := dyad.Round(a.Lo, bits, false)
			hi, _ := dyad.Round(a.Hi, bits, true)
			answers(t, "Round", got, e, to(lo, hi), api.OK)
			if !span.Holds(got, a) {
				t.Fatalf("Round of %s to %d bits: %s", span.Text(a), bits, span.Text(got))
			}
		}
	}
}

func TestRoundsErrors(t *testing.T) {
	for _, bits := range wrongBits() {
		got, e := span.Round(of(0, 1), bits)
		answers(t, "Round to wrong bits", got, e, of(0, 0), api.ErrRange)
	}
	for _, x := range []struct {
		a    api.Span
		want api.Errno
	}{
		{to(at(-5, maxExp), at(1, 0)), api.ErrRange},
		{to(at(1, 0), at(5, maxExp)), api.ErrRange},
		{to(at(-7, maxExp-2), at(0, 0)), api.ErrRange},
		{to(at(0, 0), at(7, maxExp-2)), api.ErrRange},
		{to(at(7, maxExp-2), at(1, maxExp)), api.OK}, // this end is rounded down
		{to(at(-1, maxExp), at(1, maxExp)), api.OK},
	} {
		lo, _ := dyad.Round(x.a.Lo, 2, false)
		hi, _ := dyad.Round(x.a.Hi, 2, true)
		got, e := span.Round(x.a, 2)
		answers(t, "Round at the bounds", got, e, to(lo, hi), x.want)
	}
}

// P1

// wrong is what can't be spans.
func wrong() []api.Span {
	var ends []api.Dyad
	for _, size := range []api.Nat{nil, {0}, {1, 0}, {6}, {5}, slices.Repeat(api.Nat{3}, 600), slices.Repeat(api.Nat{0}, 2000)} {
		for _, exp := range []int{0, maxExp + 1, -maxExp, math.MaxInt, math.MinInt} {
			ends = append(ends, api.Dyad{Man: api.Int{Minus: exp < 0, Size: size}, Exp: exp})
		}
	}
	var list []api.Span
	for i, lo := range ends {
		list = append(list, to(lo, lo), to(lo, ends[(i*7+3)%len(ends)]))
	}
	return append(list, api.Span{}, of(3, -3), to(most(), dyad.Neg(most())))
}

func TestNoCallPanics(t *testing.T) {
	list := append(wrong(), of(-1, 2), to(at(1, -maxExp), at(1, maxExp)))
	bits := []int{math.MinInt, 0, 2, maxBits, math.MaxInt}
	rats := []api.Rat{{}, {Num: api.Int{Minus: true}, Den: api.Nat{0}}, {Num: whole.Of(3), Den: slices.Repeat(api.Nat{5}, 600)}, ratio.Of(1, 3)}
	for _, a := range list {
		span.Make(a.Lo, a.Hi)
		span.Check(a)
		span.Point(a.Lo)
		span.Even(a.Hi)
		span.Neg(a)
		span.Size(a)
		span.Width(a)
		span.Middle(a)
		span.Text(a)
		for _, n := range bits {
			span.Round(a, n)
		}
		for _, r := range rats {
			span.HasRatio(a, r)
		}
		for _, b := range list {
			span.Hull(a, b)
			span.Meet(a, b)
			span.Has(a, b.Lo)
			span.Holds(a, b)
			for _, n := range bits {
				span.Add(a, b, n)
				span.Sub(a, b, n)
				span.Mul(a, b, n)
				span.Sum(n, a, b)
			}
		}
	}
	for _, r := range rats {
		for _, n := range bits {
			span.Near(r, n)
		}
	}
	span.Sum(0)
}
