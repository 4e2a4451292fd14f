package span_test

import (
	"testing"

	"girdle/api"
	"girdle/dyad"
	"girdle/limbs"
	"girdle/ratio"
	"girdle/span"
	"girdle/whole"
)

// P6.3

// holdsEach tells by counting whether one span of whole numbers holds each of another one's.
func holdsEach(t *testing.T, a, b api.Span) bool {
	for n := small(t, b.Lo); n <= small(t, b.Hi); n++ {
		if n < small(t, a.Lo) || n > small(t, a.Hi) {
			return false
		}
	}
	return true
}

func TestHullMeetHolds(t *testing.T) {
	list := few(-3, 3)
	for _, a := range list {
		for _, b := range list {
			lo, hi := min(small(t, a.Lo), small(t, b.Lo)), max(small(t, a.Hi), small(t, b.Hi))
			is(t, "Hull", span.Hull(a, b), of(lo, hi))
			lo, hi = max(small(t, a.Lo), small(t, b.Lo)), min(small(t, a.Hi), small(t, b.Hi))
			got, e := span.Meet(a, b)
			if lo > hi {
				answers(t, "Meet of nothing", got, e, of(0, 0), api.ErrMissing)
			} else {
				answers(t, "Meet", got, e, of(lo, hi), api.OK)
			}
			if want := holdsEach(t, a, b); span.Holds(a, b) != want {
				t.Errorf("%s holds %s: %t", span.Text(a), span.Text(b), !want)
			}
		}
	}
}

func TestHullMeetHoldsOfWideSpans(t *testing.T) {
	for _, a := range wide() {
		for _, b := range wide() {
			hull := span.Hull(a, b)
			if !span.Holds(hull, a) || !span.Holds(hull, b) || span.Check(hull) != api.OK {
				t.Fatal("a hull doesn't hold both")
			}
			meet, e := span.Meet(a, b)
			if e == api.OK && (!span.Holds(a, meet) || !span.Holds(b, meet) || span.Check(meet) != api.OK) {
				t.Fatal("what both hold isn't held by both")
			}
			if apart := dyad.Less(a.Hi, b.Lo) || dyad.Less(b.Hi, a.Lo); apart != (e == api.ErrMissing) {
				t.Fatalf("Meet: error %d", e)
			}
			if span.Holds(a, b) != (span.Has(a, b.Lo) && span.Has(a, b.Hi)) {
				t.Fatal("Holds isn't as Has")
			}
		}
	}
}

func TestHas(t *testing.T) {
	for _, a := range few(-2, 2) {
		for n := int64(-12); n <= 12; n++ {
			want := n >= 4*small(t, a.Lo) && n <= 4*small(t, a.Hi)
			if got := span.Has(a, at(n, -2)); got != want {
				t.Errorf("%s has %d/4: %t", span.Text(a), n, got)
			}
		}
	}
	all := to(at(-1, maxExp), at(1, maxExp))
	for _, x := range []struct {
		a    api.Dyad
		want bool
	}{{at(1, maxExp), true}, {at(-1, maxExp), true}, {at(1, -maxExp), true}, {most(), true}, {at(3, maxExp), false}, {at(-3, maxExp-1), false}} {
		if got := span.Has(all, x.a); got != x.want {
			t.Errorf("%x times 2^%d: %t", x.a.Man.Size, x.a.Exp, got)
		}
	}
}

func TestHasRatio(t *testing.T) {
	for _, a := range few(-2, 2) {
		for above := int64(-9); above <= 9; above++ {
			for below := int64(1); below <= 4; below++ {
				want := above >= below*small(t, a.Lo) && above <= below*small(t, a.Hi)
				if got, e := span.HasRatio(a, ratio.Of(above, below)); got != want || e != api.OK {
					t.Errorf("%s has %d/%d: %t, error %d", span.Text(a), above, below, got, e)
				}
			}
		}
	}
	third := ratio.Of(1, 3)
	over := api.Rat{Num: whole.Of(1), Den: most().Man.Size}
	for i, x := range []struct {
		a    api.Span
		r    api.Rat
		want api.Errno
	}{
		{to(at(-1, maxExp), at(1, 0)), third, api.ErrLimbs},
		{to(at(0, 0), at(1, maxExp)), third, api.ErrLimbs},
		{to(at(1, -maxExp), at(1, 0)), third, api.ErrLimbs},
		{to(at(-1, 0), at(-1, -maxExp)), third, api.ErrLimbs},
		{to(at(0, 0), at(2, 0)), over, api.ErrLimbs},
		{to(at(-2, 0), at(0, 0)), over, api.ErrLimbs},
	} {
		if got, e := span.HasRatio(x.a, x.r); got || e != x.want {
			t.Errorf("the span %d: %t, error %d, not %d", i, got, e, x.want)
		}
	}
}

func TestSizeWidthMiddle(t *testing.T) {
	for _, a := range few(-5, 5) {
		lo, hi := small(t, a.Lo), small(t, a.Hi)
		same(t, "Size", span.Size(a), at(max(lo, -lo, hi, -hi), 0))
		width, e := span.Width(a)
		same(t, "Width", width, at(hi-lo, 0))
		middle, f := span.Middle(a)
		same(t, "Middle", middle, at(lo+hi, -1))
		if e != api.OK || f != api.OK {
			t.Errorf("%s: errors %d, %d", span.Text(a), e, f)
		}
	}
	same(t, "Size", span.Size(to(at(-3, maxExp), at(1, 0))), at(3, maxExp))
	same(t, "Size", span.Size(to(at(-3, -maxExp), at(1, maxExp))), at(1, maxExp))
	same(t, "Size", span.Size(to(dyad.Neg(most()), at(1, 0))), most())
}

func TestWidthsAndMiddlesErrors(t *testing.T) {
	high, low, least := at(1, maxExp), at(-1, maxExp), at(1, -maxExp)
	for i, x := range []struct {
		a               api.Span
		width, middle   api.Dyad
		widthE, middleE api.Errno
	}{
		{to(low, high), at(0, 0), at(0, 0), api.ErrRange, api.OK},
		{to(high, high), at(0, 0), at(0, 0), api.OK, api.ErrRange},
		{to(at(0, 0), high), at(0, 0), at(0, 0), api.ErrLimbs, api.ErrLimbs},
		{to(least, high), at(0, 0), at(0, 0), api.ErrLimbs, api.ErrLimbs},
		{to(at(0, 0), least), least, at(0, 0), api.OK, api.ErrRange},
		{to(least, at(3, -maxExp)), at(1, 1-maxExp), at(1, 1-maxExp), api.OK, api.OK},
		{to(dyad.Neg(most()), most()), at(0, 0), at(0, 0), api.ErrLimbs, api.OK},
		{to(most(), most()), at(0, 0), at(0, 0), api.OK, api.ErrLimbs},
	} {
		width, e := span.Width(x.a)
		same(t, "Width", width, x.width)
		middle, f := span.Middle(x.a)
		same(t, "Middle", middle, x.middle)
		if e != x.widthE || f != x.middleE {
			t.Errorf("the span %d: errors %d and %d", i, e, f)
		}
	}
}

func TestText(t *testing.T) {
	for want, a := range map[string]api.Span{
		"0..0": {}, "-2..6": of(-2, 6), "-7/4..-1/2": to(at(-7, -2), at(-1, -1)), "3..3": of(3, 3), "0..18446744073709551616": to(at(0, 0), at(1, 64)), "5/16..11/32": to(at(5, -4), at(11, -5)),
	} {
		if got := span.Text(a); got != want {
			t.Errorf("%s, not %s", got, want)
		}
	}
	for i, a := range []api.Span{
		to(at(0, 0), at(1, limbBits)), to(at(-1, limbBits), at(0, 0)), to(at(0, 0), at(1, -limbBits)), to(at(-1, -limbBits), at(0, 0)), to(at(-1, maxExp), at(1, maxExp)),
	} {
		if got := span.Text(a); got != "" {
			t.Errorf("the span %d: %s", i, got)
		}
	}
	great, _ := limbs.Left(limbs.Of(1), limbBits-1)
	r := api.Rat{Num: whole.Nat(great), Den: limbs.Of(1)}
	if got := span.Text(to(at(0, 0), at(1, limbBits-1))); got != "0.."+ratio.Text(r) {
		t.Error("the greatest power that has room")
	}
}
