package box_test

import (
	"math"
	"slices"
	"strings"
	"testing"

	"girdle/api"
	"girdle/box"
	"girdle/dyad"
	"girdle/ratio"
	"girdle/span"
	"girdle/vec"
	"girdle/whole"
)

// The bounds as the document tells them.
const (
	maxDim  = 16
	maxExp  = 1 << 16
	maxBits = 4096
)

// at is a number times 2 to the power of exp.
func at(n int64, exp int) api.Dyad {
	a, e := dyad.Make(whole.Of(n), exp)
	if e != api.OK {
		panic("a test's number is beyond the bounds")
	}
	return a
}

// of is the span of two numbers.
func of(lo, hi int64) api.Span { return api.Span{Lo: at(lo, 0), Hi: at(hi, 0)} }

// rats is a list of a text: ratios with blanks between.
func rats(text string) []api.Rat {
	list := []api.Rat{}
	for _, word := range strings.Fields(text) {
		x, e := ratio.Parse(word)
		if e != api.OK {
			panic("a test's ratio is wrong")
		}
		list = append(list, x)
	}
	return list
}

// parsed is a box of a text: spans with blanks between, of ends that are numbers.
func parsed(text string) box.Box {
	b := box.Box{}
	for _, word := range strings.Fields(text) {
		lo, hi, _ := strings.Cut(word, "..")
		x, y := rats(lo)[0], rats(hi)[0]
		near, e := span.Near(x, maxBits)
		far, f := span.Near(y, maxBits)
		if e != api.OK || f != api.OK {
			panic("a test's number is beyond the bounds")
		}
		b = append(b, api.Span{Lo: near.Lo, Hi: far.Hi})
	}
	return b
}

// text is a box's spans with blanks between.
func text(b box.Box) string {
	var words []string
	for _, place := range b {
		words = append(words, span.Text(place))
	}
	return strings.Join(words, " ")
}

// mixed is a box that looks like no other, the same in every run.
func mixed(n int, seed uint64) box.Box {
	b := make(box.Box, n)
	for i := range b {
		seed = seed*6364136223846793005 + 1442695040888963407
		lo := int64(seed>>44) - 1<<19
		b[i] = api.Span{Lo: at(lo, -10), Hi: at(lo+int64(seed>>20&1023), -10)}
	}
	return b
}

// changed is a box with another span at one place.
func changed(b box.Box, at int, x api.Span) box.Box {
	b = slices.Clone(b)
	b[at] = x
	return b
}

// is tells whether a call's answer is that box; with an error there is to be none.
func is(t *testing.T, what string, got box.Box, e api.Errno, want string, wantE api.Errno) {
	t.Helper()
	if e != wantE || text(got) != want {
		t.Errorf("%s: %.200s, error %d, not %.200s, error %d", what, text(got), e, want, wantE)
	}
	for _, place := range got {
		if f := span.Check(place); f != api.OK {
			t.Errorf("%s: a span that can't be: error %d", what, f)
		}
	}
}

// number tells whether a call's answer is that number; with an error it is to be 0.
func number(t *testing.T, what string, got api.Dyad, e api.Errno, want string, wantE api.Errno) {
	t.Helper()
	x, f := dyad.Ratio(got)
	if e != wantE || f != api.OK || ratio.Text(x) != want || dyad.Check(got) != api.OK {
		t.Errorf("%s: %.80s, error %d, not %.80s, error %d", what, ratio.Text(x), e, want, wantE)
	}
}

// P15.1

func TestOf(t *testing.T) {
	b, e := box.Of(rats("1 -2 0 7/4"), 3)
	is(t, "Of numbers", b, e, "1..1 -2..-2 0..0 7/4..7/4", api.OK)
	b, e = box.Of(rats("1/3 -1/3 7"), 4)
	is(t, "Of what is rounded", b, e, "5/16..11/32 -11/32..-5/16 7..7", api.OK)
	b, e = box.Of(rats("7 1/3"), 2)
	is(t, "Of few bits", b, e, "6..8 1/4..3/8", api.OK)
	b, e = box.Of(nil, 20)
	is(t, "Of nothing", b, e, "", api.OK)
	for _, bits := range []int{math.MinInt, -1, 0, 1, maxBits + 1, math.MaxInt} {
		b, e = box.Of(rats("1 1/3"), bits)
		is(t, "Of wrong bits", b, e, "", api.ErrRange)
	}
	for n := range maxDim + 3 {
		list := slices.Repeat(rats("1/3"), n)
		got, e := box.Of(list, 20)
		want, f := vec.Near(list, 20)
		is(t, "Of so many", got, e, text(box.Box(want)), f)
	}
}

func TestCheck(t *testing.T) {
	for size := range maxDim + 3 {
		for n := -2; n < maxDim+3; n++ {
			want := api.ErrShape
			if n == size && size <= maxDim {
				want = api.OK
			}
			if e := box.Check(mixed(size, 1), n); e != want {
				t.Errorf("%d, not %d: error %d", size, n, e)
			}
		}
	}
	for _, n := range []int{math.MinInt, -1, 1, maxDim + 1, math.MaxInt} {
		if e := box.Check(nil, n); e != api.ErrShape {
			t.Errorf("none, not %d: error %d", n, e)
		}
	}
}

func TestCheckOfSpans(t *testing.T) {
	back, far, even := of(2, 1), api.Span{Hi: api.Dyad{Man: whole.Of(1), Exp: maxExp + 1}}, api.Span{Hi: api.Dyad{Man: whole.Of(2)}}
	for _, x := range []struct {
		a    api.Span
		want api.Errno
	}{{back, api.ErrRange}, {far, api.ErrRange}, {even, api.ErrForm}, {api.Span{Lo: even.Hi, Hi: at(9, 0)}, api.ErrForm}, {api.Span{Hi: api.Dyad{Man: whole.Nat(slices.Repeat(api.Nat{5}, 600))}}, api.ErrLimbs}} {
		for i := range maxDim {
			if e := box.Check(changed(mixed(maxDim, 2), i, x.a), maxDim); e != x.want {
				t.Errorf("at the place %d: error %d, not %d", i, e, x.want)
			}
		}
		if e := box.Check(box.Box{x.a, x.a}, 1); e != api.ErrShape {
			t.Errorf("how many places there are is told of first, not error %d", e)
		}
		if e := box.Check(slices.Repeat(box.Box{x.a}, maxDim+1), maxDim+1); e != api.ErrShape {
			t.Errorf("the bound is told of first, not error %d", e)
		}
	}
	if e := box.Check(box.Box{of(0, 1), even, back}, 3); e != api.ErrForm {
		t.Errorf("the first error isn't told: %d", e)
	}
	if e := box.Check(box.Box{of(0, 1), back, even}, 3); e != api.ErrRange {
		t.Errorf("the first error isn't told: %d", e)
	}
}

func TestHull(t *testing.T) {
	h, e := box.Hull(parsed("1..1 2..2 -3..5 0..1"), parsed("-1..0 5..6 -2..4 -1/2..1/4"))
	is(t, "Hull", h, e, "-1..1 2..6 -3..5 -1/2..1", api.OK)
	h, e = box.Hull(nil, box.Box{})
	is(t, "Hull of nothing", h, e, "", api.OK)
	for n := range maxDim + 2 {
		a, b := mixed(n, 3), mixed(n, 4)
		h, e := box.Hull(a, b)
		if e != api.OK || len(h) != n {
			t.Fatalf("Hull of %d: error %d", n, e)
		}
		for i := range n {
			if span.Text(h[i]) != span.Text(span.Hull(a[i], b[i])) {
				t.Errorf("Hull, at the place %d: %s", i, span.Text(h[i]))
			}
		}
		if n > 0 {
			h, e = box.Hull(a, b[1:])
			is(t, "Hull of unlike places", h, e, "", api.ErrShape)
			h, e = box.Hull(a[1:], b)
			is(t, "Hull of unlike places", h, e, "", api.ErrShape)
		}
	}
}

func TestWider(t *testing.T) {
	w, e := box.Wider(parsed("-1..1 2..5 0..0 3..4"), []api.Dyad{at(-1, 0), at(2, 0), at(0, 0), at(1, -1)}, 20)
	is(t, "Wider", w, e, "-2..2 0..7 0..0 5/2..9/2", api.OK)
	w, e = box.Wider(parsed("9..9 -9..-9"), []api.Dyad{at(1, -1), at(-1, -1)}, 3)
	is(t, "Wider by few bits", w, e, "8..10 -10..-8", api.OK)
	w, e = box.Wider(nil, nil, 20)
	is(t, "Wider of nothing", w, e, "", api.OK)
	w, e = box.Wider(parsed("0..1 0..1"), []api.Dyad{at(1, 0)}, 20)
	is(t, "Wider by too few", w, e, "", api.ErrShape)
	w, e = box.Wider(parsed("0..1"), []api.Dyad{at(1, 0), at(1, 0)}, 1)
	is(t, "Wider by too many", w, e, "", api.ErrShape)
	for _, bits := range []int{math.MinInt, 0, 1, maxBits + 1} {
		w, e = box.Wider(parsed("0..1"), []api.Dyad{at(1, 0)}, bits)
		is(t, "Wider by wrong bits", w, e, "", api.ErrRange)
	}
	w, e = box.Wider(parsed("0..1 1..2"), []api.Dyad{at(1, 0), at(1, 40000)}, 20)
	is(t, "Wider by what has no room", w, e, "", api.ErrLimbs)
}

func TestHolds(t *testing.T) {
	for n := range maxDim + 2 {
		b := mixed(n, 5)
		if !box.Holds(b, b) {
			t.Errorf("a box of %d doesn't hold itself", n)
		}
		if n > 0 && (box.Holds(b, b[1:]) || box.Holds(b[1:], b)) {
			t.Errorf("a box of %d holds one of other places", n)
		}
		for i := range n {
			low, _ := dyad.Sub(b[i].Lo, at(1, -50))
			high, _ := dyad.Add(b[i].Hi, at(1, -50))
			for _, x := range []api.Span{{Lo: low, Hi: b[i].Hi}, {Lo: b[i].Lo, Hi: high}, {Lo: low, Hi: high}} {
				if wider := changed(b, i, x); box.Holds(b, wider) || !box.Holds(wider, b) {
					t.Errorf("at the place %d of %d", i, n)
				}
			}
		}
	}
	if !box.Holds(nil, box.Box{}) || box.Holds(nil, parsed("0..0")) || box.Holds(parsed("0..0"), nil) {
		t.Error("of nothing")
	}
	if far := (box.Box{{Lo: at(-1, maxExp), Hi: at(1, maxExp)}}); !box.Holds(far, parsed("-5..5")) || box.Holds(parsed("-5..5"), far) {
		t.Error("of great numbers")
	}
}

func TestHas(t *testing.T) {
	b := parsed("-1..1 2..5 1/2..1/2")
	for _, x := range []struct {
		list string
		yes  bool
		e    api.Errno
	}{
		{"0 3 1/2", true, api.OK}, {"-1 2 1/2", true, api.OK}, {"1 5 1/2", true, api.OK}, {"1/3 7/3 1/2", true, api.OK}, {"-10001/10000 3 1/2", false, api.OK}, {"0 50001/10000 1/2", false, api.OK}, {"0 3 1/3", false, api.OK},
		{"0 3", false, api.ErrShape}, {"0 3 1/2 0", false, api.ErrShape}, {"", false, api.ErrShape},
	} {
		if yes, e := box.Has(b, rats(x.list)); yes != x.yes || e != x.e {
			t.Errorf("%s: %t, error %d", x.list, yes, e)
		}
	}
	if yes, e := box.Has(nil, nil); !yes || e != api.OK {
		t.Errorf("nothing: %t, error %d", yes, e)
	}
	if yes, e := box.Has(box.Box{{Hi: at(1, maxExp)}}, rats("1")); yes || e != api.ErrLimbs {
		t.Errorf("what has no room: %t, error %d", yes, e)
	}
}

// P15.2

func TestSupport(t *testing.T) {
	for _, x := range []struct {
		b, dir, want string
		bits         int
		e            api.Errno
	}{
		{"1..3 -1..0", "1..1 -1..-1", "4", 20, api.OK}, {"1..3 -1..0", "-1..-1 1..1", "-1", 20, api.OK}, {"-1..1 2..5", "2..2 -1..-1", "0", 20, api.OK}, {"-1..1 2..5", "0..0 0..0", "0", 20, api.OK}, {"", "", "0", 20, api.OK},
		{"1..3 -1..0", "-1..2 -3..1", "9", 20, api.OK}, {"-3..-1", "-2..1", "6", 20, api.OK}, {"1/4..5/8", "13/4..15/4", "3", 2, api.OK},
		{"1..3", "1..1 1..1", "0", 20, api.ErrShape}, {"1..3 1..1", "1..1", "0", 1, api.ErrShape}, {"1..3", "1..1", "0", 1, api.ErrRange}, {"1..3", "1..1", "0", maxBits + 1, api.ErrRange},
	} {
		got, e := box.Support(parsed(x.b), parsed(x.dir), x.bits)
		number(t, "Support of "+x.b+" in "+x.dir, got, e, x.want, x.e)
	}
	got, e := box.Support(box.Box{{Hi: at(1, maxExp)}}, box.Box{{Lo: at(1, 1), Hi: at(1, 1)}}, 20)
	number(t, "Support without room", got, e, "0", api.ErrRange)
	for n := range maxDim + 2 {
		for seed := range uint64(5) {
			b, dir := mixed(n, seed+6), mixed(n, seed+20)
			for _, bits := range []int{2, 9, 40, maxBits} {
				got, e := box.Support(b, dir, bits)
				want, f := vec.Inner(b, dir, bits)
				if e != f || dyad.Check(got) != api.OK || dyad.Compare(got, want.Hi) != 0 {
					t.Errorf("Support of %d: %v, error %d", n, got, e)
				}
			}
		}
	}
}

func TestWidest(t *testing.T) {
	for _, x := range []struct{ b, want string }{{"", "0"}, {"5..5", "0"}, {"-1..1 2..5", "3"}, {"2..5 -1..1", "3"}, {"-7..-6 0..1/2", "1"}, {"1/4..1/2 0..0 3/8..1/2", "1/4"}} {
		got, e := box.Widest(parsed(x.b))
		number(t, "Widest of "+x.b, got, e, x.want, api.OK)
	}
	for i := range 5 {
		got, e := box.Widest(changed(mixed(5, 7), i, of(-5000, 5000)))
		number(t, "Widest", got, e, "10000", api.OK)
		got, e = box.Widest(changed(mixed(5, 7), i, api.Span{Lo: at(-1, 0), Hi: at(1, 30000)}))
		number(t, "Widest without room", got, e, "0", api.ErrLimbs)
	}
}
