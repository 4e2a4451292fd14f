package span_test

import (
	"math"
	"testing"

	"girdle/api"
	"girdle/dyad"
	"girdle/span"
)

// P6.2

// reckoning is a call of two spans, and what it does with a number of each.
type reckoning struct {
	name string
	do   func(a, b api.Span, bits int) (api.Span, api.Errno)
	one  func(x, y int64) int64
}

// reckonings is all of them.
func reckonings() []reckoning {
	return []reckoning{
		{"Add", span.Add, func(x, y int64) int64 { return x + y }},
		{"Sub", span.Sub, func(x, y int64) int64 { return x - y }},
		{"Mul", span.Mul, func(x, y int64) int64 { return x * y }},
	}
}

// counted is from the least to the greatest of all that the whole numbers of two spans come to.
func counted(t *testing.T, a, b api.Span, one func(x, y int64) int64) api.Span {
	lo, hi := int64(math.MaxInt64), int64(math.MinInt64)
	for x := small(t, a.Lo); x <= small(t, a.Hi); x++ {
		for y := small(t, b.Lo); y <= small(t, b.Hi); y++ {
			lo, hi = min(lo, one(x, y)), max(hi, one(x, y))
		}
	}
	return of(lo, hi)
}

func TestReckoning(t *testing.T) {
	for _, r := range reckonings() {
		for _, a := range few(-4, 4) {
			for _, b := range few(-4, 4) {
				want := counted(t, a, b, r.one)
				got, e := r.do(a, b, 20)
				answers(t, r.name, got, e, want, api.OK)
				rough, _ := span.Round(want, 2)
				got, e = r.do(a, b, 2)
				answers(t, r.name+" rounded", got, e, rough, api.OK)
			}
		}
	}
}

func TestReckoningRoundsOutwards(t *testing.T) {
	got, e := span.Add(of(-20, 20), of(-1, 1), 3)
	answers(t, "Add", got, e, of(-24, 24), api.OK)
	got, e = span.Sub(of(20, 20), of(-1, 1), 3)
	answers(t, "Sub", got, e, of(16, 24), api.OK)
	got, e = span.Sub(of(20, 20), of(-3, -1), 4)
	answers(t, "Sub", got, e, of(20, 24), api.OK)
	got, e = span.Mul(of(-7, 3), of(3, 3), 3)
	answers(t, "Mul", got, e, of(-24, 10), api.OK)
	got, e = span.Mul(of(1, 2), of(-1, 3), 20)
	answers(t, "Mul", got, e, of(-2, 6), api.OK)
}

func TestReckoningOfNumbersFarApart(t *testing.T) {
	got, e := span.Add(to(at(-1, -16000), at(1, 0)), to(at(-1, 0), at(1, -16000)), 2)
	answers(t, "Add", got, e, to(at(-3, -1), at(3, -1)), api.OK)
	got, e = span.Mul(to(at(-1, maxExp), at(1, -maxExp)), to(at(-3, -maxExp), at(5, -maxExp)), 53)
	answers(t, "Mul", got, e, api.Span{}, api.ErrRange)
	got, e = span.Mul(to(at(-1, maxExp), at(0, 0)), to(at(-3, -maxExp), at(5, -maxExp)), 53)
	answers(t, "Mul", got, e, of(-5, 3), api.OK)
	got, e = span.Sub(to(at(0, 0), at(1, maxExp)), to(at(1, maxExp), at(1, maxExp)), 53)
	answers(t, "Sub", got, e, api.Span{}, api.ErrLimbs)
}

func TestReckoningsErrors(t *testing.T) {
	for _, r := range reckonings() {
		for _, bits := range wrongBits() {
			got, e := r.do(of(1, 2), of(3, 4), bits)
			answers(t, r.name+" to wrong bits", got, e, of(0, 0), api.ErrRange)
		}
		// Below, above: either end's is answered.
		for _, a := range []api.Span{to(dyad.Neg(most()), at(0, 0)), to(at(0, 0), most()), to(dyad.Neg(most()), most())} {
			got, e := r.do(a, of(-3, 3), 53)
			answers(t, r.name+" of too many digits", got, e, of(0, 0), api.ErrLimbs)
			got, e = r.do(of(-3, 3), a, 1)
			answers(t, r.name+" of too many digits, to wrong bits", got, e, of(0, 0), api.ErrLimbs)
		}
	}
	high := at(1, maxExp)
	low := dyad.Neg(high)
	for _, a := range []api.Span{to(high, high), to(low, low)} {
		got, e := span.Add(a, a, 53)
		answers(t, "Add beyond the bounds", got, e, of(0, 0), api.ErrRange)
		got, e = span.Sub(a, span.Neg(a), 53)
		answers(t, "Sub beyond the bounds", got, e, of(0, 0), api.ErrRange)
		got, e = span.Mul(a, of(1, 2), 53)
		answers(t, "Mul beyond the bounds", got, e, of(0, 0), api.ErrRange)
		got, e = span.Sub(a, a, 53)
		answers(t, "Sub", got, e, of(0, 0), api.OK)
	}
	got, e := span.Add(to(at(3, maxExp), at(3, maxExp)), to(at(-1, maxExp-1), at(-1, maxExp-1)), 2)
	answers(t, "rounded beyond the bounds", got, e, to(at(1, maxExp), at(3, maxExp)), api.ErrRange)
}

func TestNeg(t *testing.T) {
	for _, a := range append(few(-3, 3), wide()...) {
		is(t, "Neg", span.Neg(a), to(dyad.Neg(a.Hi), dyad.Neg(a.Lo)))
	}
}

func TestSum(t *testing.T) {
	five := of(5, 5)
	for i, x := range []struct {
		bits int
		list []api.Span
		want api.Span
	}{
		{20, nil, of(0, 0)},
		{20, []api.Span{of(-2, 3)}, of(-2, 3)},
		{2, []api.Span{five}, of(4, 6)},
		{2, []api.Span{five, five}, of(8, 12)},
		{2, []api.Span{five, five, five}, of(12, 24)}, // all at once it would be up to 16
		{20, []api.Span{five, five, five}, of(15, 15)},
		{10, []api.Span{of(-2, 3), of(-2, 3), of(1, 5)}, of(-3, 11)},
		{3, []api.Span{of(20, 20), of(1, 1), of(-1, -1)}, of(16, 24)}, // one after the other
		{3, []api.Span{of(1, 1), of(-1, -1), of(20, 20)}, of(20, 20)},
	} {
		got, e := span.Sum(x.bits, x.list...)
		if e != api.OK {
			t.Fatalf("the sum %d: error %d", i, e)
		}
		is(t, "Sum", got, x.want)
	}
}

func TestSumsErrors(t *testing.T) {
	for _, bits := range wrongBits() {
		got, e := span.Sum(bits, of(1, 2))
		answers(t, "Sum to wrong bits", got, e, of(0, 0), api.ErrRange)
	}
	high := to(at(1, 0), most())
	got, e := span.Sum(53, of(1, 1), high, of(1, 1))
	answers(t, "Sum of too many digits", got, e, of(0, 0), api.ErrLimbs)
	got, e = span.Sum(53, of(-1, -1), high)
	answers(t, "Sum with room", got, e, to(at(0, 0), at(1, limbBits)), api.OK)
}
