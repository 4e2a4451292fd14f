package vec_test

import (
	"math"
	"slices"
	"strconv"
	"strings"
	"testing"

	"girdle/api"
	"girdle/dyad"
	"girdle/limbs"
	"girdle/ratio"
	"girdle/span"
	"girdle/vec"
	"girdle/whole"
)

// The bounds as the document tells them.
const (
	maxExp  = 1 << 16
	maxBits = 4096
)

// at is a number times 2 to the power of exp.
func at(n int64, exp int) api.Dyad {
	a, e := dyad.Make(whole.Of(n), exp)
	if e != api.OK {
		panic("a test's number is beyond the bounds")
	}
	return a
}

// of is the span from a small number to another one.
func of(lo, hi int64) api.Span { return api.Span{Lo: at(lo, 0), Hi: at(hi, 0)} }

// great is a number alone, times 2 to the power of exp.
func great(n int64, exp int) api.Span { return span.Point(at(n, exp)) }

// parsed is spans of a text: whole numbers with .. between, with blanks between two.
func parsed(text string) []api.Span {
	list := []api.Span{}
	for _, word := range strings.Fields(text) {
		lo, hi, _ := strings.Cut(word, "..")
		x, e := strconv.ParseInt(lo, 10, 64)
		y, f := strconv.ParseInt(hi, 10, 64)
		if e != nil || f != nil {
			panic("a test's span is wrong")
		}
		list = append(list, of(x, y))
	}
	return list
}

// words is spans' texts with blanks between.
func words(list []api.Span) string {
	var words []string
	for _, x := range list {
		words = append(words, span.Text(x))
	}
	return strings.Join(words, " ")
}

// spread is so many spans that look like no others, the same in every run.
func spread(n int, seed uint64) []api.Span {
	list := make([]api.Span, n)
	for i := range list {
		seed = seed*6364136223846793005 + 1442695040888963407
		lo := int64(seed>>44) - 1<<19
		list[i] = api.Span{Lo: at(lo, -10), Hi: at(lo+int64(seed>>30&0xffff), -10)}
	}
	return list
}

// with is a list with another span at one place.
func with(list []api.Span, at int, x api.Span) []api.Span {
	list = slices.Clone(list)
	list[at] = x
	return list
}

// same tells whether two spans are the same, and may be.
func same(a, b api.Span) bool {
	return span.Check(a) == api.OK && dyad.Compare(a.Lo, b.Lo) == 0 && dyad.Compare(a.Hi, b.Hi) == 0
}

// are tells whether a call's answer is those spans; with an error there are to be none.
func are(t *testing.T, what string, got []api.Span, e api.Errno, want []api.Span, wantE api.Errno) {
	t.Helper()
	if e != wantE {
		t.Fatalf("%s: error %d, not %d", what, e, wantE)
	}
	if len(got) > 0 && e != api.OK {
		t.Fatalf("%s: spans beside error %d", what, e)
	}
	if !slices.EqualFunc(got, want, same) {
		t.Fatalf("%s: %.200s, not %.200s", what, words(got), words(want))
	}
}

// one tells whether a call's answer is that span; with an error it is to be 0 alone.
func one(t *testing.T, what string, got api.Span, e api.Errno, want api.Span, wantE api.Errno) {
	t.Helper()
	if e != wantE {
		t.Fatalf("%s: error %d, not %d", what, e, wantE)
	}
	if e != api.OK {
		want = of(0, 0)
	}
	if !same(got, want) {
		t.Fatalf("%s: %.80s, not %.80s", what, span.Text(got), span.Text(want))
	}
}

// wrongBits is how many bits can't be rounded to.
func wrongBits() []int { return []int{math.MinInt, -1, 0, 1, maxBits + 1, math.MaxInt} }

// P7.3

func TestNear(t *testing.T) {
	got, e := vec.Near(rats("21 -1/3 0 1000 3/8"), 4)
	if e != api.OK || words(got) != "20..22 -11/32..-5/16 0..0 960..1024 3/8..3/8" {
		t.Errorf("Near: %s, error %d", words(got), e)
	}
	for n := range maxDim + 2 {
		for _, bits := range []int{2, 10, maxBits} {
			a := mixed(n, 7)
			var want []api.Span
			for _, x := range a {
				near, _ := span.Near(x, bits)
				want = append(want, near)
			}
			got, e := vec.Near(a, bits)
			are(t, "Near", got, e, want, api.OK)
		}
	}
	for _, bits := range wrongBits() {
		got, e := vec.Near(rats("0 1"), bits)
		are(t, "Near to wrong bits", got, e, nil, api.ErrRange)
	}
	for at := range 4 {
		most := slices.Repeat(api.Nat{math.MaxUint32}, 512)
		a := changed(mixed(4, 8), at, api.Rat{Num: whole.Of(1), Den: most})
		got, e := vec.Near(a, maxBits)
		are(t, "Near without room", got, e, nil, api.ErrLimbs)
	}
}

func TestPlusAndTimes(t *testing.T) {
	a, b := parsed("1..2 -3..3 20..20 0..0"), parsed("-1..1 2..5 1..1 -7..-7")
	got, e := vec.Plus(a, b, 20)
	are(t, "Plus", got, e, parsed("0..3 -1..8 21..21 -7..-7"), api.OK)
	got, e = vec.Plus(a, b, 3)
	are(t, "Plus to few bits", got, e, parsed("0..3 -1..8 20..24 -7..-7"), api.OK)
	got, e = vec.Times(a, of(-1, 3), 20)
	are(t, "Times", got, e, parsed("-2..6 -9..9 -20..60 0..0"), api.OK)
	got, e = vec.Times(a, of(-1, 3), 2)
	are(t, "Times to few bits", got, e, parsed("-2..6 -12..12 -24..64 0..0"), api.OK)
	for n := range maxDim + 2 {
		for _, bits := range []int{2, 9, 53} {
			a, b, by := spread(n, 9), spread(n, 10), of(-3, 2)
			var sums, products []api.Span
			for i := range n {
				sum, _ := span.Add(a[i], b[i], bits)
				product, _ := span.Mul(a[i], by, bits)
				sums, products = append(sums, sum), append(products, product)
			}
			got, e := vec.Plus(a, b, bits)
			are(t, "Plus", got, e, sums, api.OK)
			got, e = vec.Times(a, by, bits)
			are(t, "Times", got, e, products, api.OK)
		}
	}
}

func TestInner(t *testing.T) {
	for _, x := range []struct {
		a, b string
		bits int
		want string
	}{
		{"", "", 20, "0..0"},
		{"1..2", "-1..3", 20, "-2..6"},
		{"1..2 3..3", "-1..3 -2..2", 20, "-8..12"},
		{"1..1 2..2 3..3", "4..4 -5..-5 6..6", 20, "12..12"},
		{"5..5", "1..1", 2, "4..6"},                                   // the product is rounded
		{"5..5", "5..5", 2, "24..32"},                                 // once
		{"4..4 1..1", "1..1 1..1", 2, "4..6"},                         // the sum is rounded
		{"5..5 5..5 5..5", "1..1 1..1 1..1", 2, "12..24"},             // all at once it would be from 12 to 16
		{"20..20 1..1 -1..-1", "1..1 1..1 1..1", 3, "16..24"},         // from the first place on
		{"1..1 -1..-1 20..20", "1..1 1..1 1..1", 3, "20..20"},         // and not from the last one
		{"-5..-5 4..4 1..1", "1..1 1..1 1..1", 2, "-1..1"},            // each product ahead of the sum
		{"16..16 1..1 1..1 1..1", "1..1 1..1 1..1 1..1", 2, "16..48"}, // each sum
	} {
		got, e := vec.Inner(parsed(x.a), parsed(x.b), x.bits)
		one(t, "Inner of "+x.a+" and "+x.b, got, e, parsed(x.want)[0], api.OK)
	}
	for n := range maxDim + 2 {
		for _, bits := range []int{2, 9, 53} {
			a, b := spread(n, 11), spread(n, 12)
			want := of(0, 0)
			for i := range n {
				product, _ := span.Mul(a[i], b[i], bits)
				want, _ = span.Add(want, product, bits)
			}
			got, e := vec.Inner(a, b, bits)
			one(t, "Inner", got, e, want, api.OK)
		}
	}
}

func TestInnerOfGreatNumbers(t *testing.T) {
	// No more room is asked for than products and sums need.
	got, e := vec.Inner([]api.Span{great(3, 20000)}, []api.Span{great(1, 20000)}, 53)
	one(t, "Inner of one place", got, e, great(3, 40000), api.OK)
	got, e = vec.Inner([]api.Span{great(3, 20000), great(1, 30000)}, []api.Span{great(1, 20000), great(1, 10000)}, 53)
	one(t, "Inner of two", got, e, great(1, 40002), api.OK)
	got, e = vec.Inner([]api.Span{great(1, 40000), of(1, 1)}, parsed("1..1 1..1"), 53)
	one(t, "Inner of numbers far apart", got, e, of(0, 0), api.ErrLimbs)
	got, e = vec.Inner([]api.Span{great(1, maxExp), great(1, maxExp)}, parsed("1..1 1..1"), 53)
	one(t, "Inner beyond the bounds", got, e, of(0, 0), api.ErrRange)
	got, e = vec.Inner([]api.Span{great(1, maxExp), great(1, maxExp)}, parsed("1..1 2..2"), 53)
	one(t, "Inner beyond the bounds", got, e, of(0, 0), api.ErrRange)
}

func TestSpansErrors(t *testing.T) {
	for n := range maxDim + 2 {
		for m := range maxDim + 2 {
			if n == m {
				continue
			}
			// Wrong bits are told of behind the lengths.
			got, e := vec.Plus(spread(n, 13), spread(m, 13), 1)
			are(t, "Plus of unlike lengths", got, e, nil, api.ErrShape)
			x, e := vec.Inner(spread(n, 13), spread(m, 13), 1)
			one(t, "Inner of unlike lengths", x, e, of(0, 0), api.ErrShape)
		}
	}
	for _, bits := range wrongBits() {
		a := parsed("0..0 1..2")
		got, e := vec.Plus(a, a, bits)
		are(t, "Plus to wrong bits", got, e, nil, api.ErrRange)
		got, e = vec.Times(a, of(0, 1), bits)
		are(t, "Times to wrong bits", got, e, nil, api.ErrRange)
		x, e := vec.Inner(a, a, bits)
		one(t, "Inner to wrong bits", x, e, of(0, 0), api.ErrRange)
	}
	most := span.Point(api.Dyad{Man: api.Int{Size: slices.Repeat(api.Nat{math.MaxUint32}, 512)}})
	for at := range 4 {
		a, b := with(spread(4, 14), at, most), with(spread(4, 15), at, most)
		got, e := vec.Plus(a, b, 53)
		are(t, "Plus without room", got, e, nil, api.ErrLimbs)
		got, e = vec.Times(a, of(3, 3), 53)
		are(t, "Times without room", got, e, nil, api.ErrLimbs)
		x, e := vec.Inner(a, b, 53)
		one(t, "Inner without room", x, e, of(0, 0), api.ErrLimbs)
	}
}

func TestHolds(t *testing.T) {
	for _, x := range []struct {
		a, x  string
		want  bool
		wantE api.Errno
	}{
		{"", "", true, api.OK},
		{"0..1", "1/3", true, api.OK},
		{"0..1 -3..3 5..5", "0 3 5", true, api.OK},
		{"0..1 -3..3 5..5", "1 -3 5", true, api.OK},
		{"0..1 -3..3 5..5", "4/3 0 5", false, api.OK},
		{"0..1 -3..3 5..5", "1 -10/3 5", false, api.OK},
		{"0..1 -3..3 5..5", "1 0 5.001", false, api.OK},
		{"0..1 -3..3 5..5", "2 4 6", false, api.OK},
		{"0..1 -3..3", "0", false, api.ErrShape},
		{"0..1", "0 0", false, api.ErrShape},
		{"", "0", false, api.ErrShape},
		{"0..1", "", false, api.ErrShape},
	} {
		if got, e := vec.Holds(parsed(x.a), rats(x.x)); got != x.want || e != x.wantE {
			t.Errorf("%s holds %s: %t, error %d", x.a, x.x, got, e)
		}
	}
	a := mixed(maxDim, 16)
	near, _ := vec.Near(a, 8)
	for i := range a {
		if yes, e := vec.Holds(near, a); !yes || e != api.OK {
			t.Fatalf("Holds: error %d", e)
		}
		more, _ := ratio.Add(a[i], ratio.Of(1<<40, 1))
		for _, x := range []api.Rat{more, ratio.Neg(more)} {
			if yes, e := vec.Holds(near, changed(a, i, x)); yes || e != api.OK {
				t.Errorf("another ratio at the place %d is held, error %d", i, e)
			}
		}
		// What is too great to tell is told of, whatever the other places hold.
		far := api.Span{Lo: at(0, 0), Hi: at(1, maxExp)}
		for _, others := range [][]api.Span{near, spread(maxDim, 17)} {
			if yes, e := vec.Holds(with(others, i, far), a); yes || e != api.ErrLimbs {
				t.Errorf("without room at the place %d: %t, error %d", i, yes, e)
			}
		}
	}
}

func TestNorm(t *testing.T) {
	for _, x := range []struct {
		a    string
		want int64
	}{{"", 0}, {"0..0", 0}, {"1..3", 3}, {"-4..3", 4}, {"-4..-3", 4}, {"1..1 -7..-5 2..6", 7}, {"-9..1 2..2 -3..8", 9}, {"1..2 0..0 3..11", 11}} {
		got := vec.Norm(parsed(x.a))
		if dyad.Check(got) != api.OK || dyad.Compare(got, at(x.want, 0)) != 0 {
			t.Errorf("Norm of %s: %v", x.a, got)
		}
	}
	for i := range 5 {
		got := vec.Norm(with(spread(5, 18), i, great(-3, maxExp)))
		if dyad.Compare(got, at(3, maxExp)) != 0 {
			t.Errorf("Norm, the greatest at the place %d: %v", i, got)
		}
	}
	if got := vec.Norm([]api.Span{{}, great(1, -maxExp)}); dyad.Compare(got, at(1, -maxExp)) != 0 {
		t.Errorf("Norm of a small number: %v", got)
	}
}

// P1

// wrongSpans is what can't be spans.
func wrongSpans() []api.Span {
	var ends []api.Dyad
	for _, size := range []api.Nat{nil, {0}, {1, 0}, {6}, slices.Repeat(api.Nat{3}, 600), slices.Repeat(api.Nat{0}, 2000)} {
		for _, exp := range []int{0, maxExp + 1, math.MaxInt, math.MinInt} {
			ends = append(ends, api.Dyad{Man: api.Int{Minus: exp < 0, Size: size}, Exp: exp})
		}
	}
	var list []api.Span
	for i, lo := range ends {
		list = append(list, api.Span{Lo: lo, Hi: ends[(i*7+3)%len(ends)]})
	}
	return append(list, of(3, -3))
}

func TestNoCallOfSpansPanics(t *testing.T) {
	lists := [][]api.Span{nil, parsed("1..2"), parsed("-1..1 3..3"), wrongSpans(), {great(1, maxExp), great(1, -maxExp)}}
	for i, a := range wrongSpans() {
		lists = append(lists, []api.Span{a}, []api.Span{of(1, 2), wrongSpans()[i*3%25]})
	}
	numbers := append([][]api.Rat{nil, rats("1/3"), rats("1 -2"), wrong()}, wrong()[:5], wrong()[5:7])
	for _, a := range lists {
		vec.Norm(a)
		for _, x := range numbers {
			vec.Holds(a, x)
		}
		for _, bits := range []int{math.MinInt, 0, 2, maxBits, math.MaxInt} {
			for _, by := range append(wrongSpans(), of(-1, 1)) {
				vec.Times(a, by, bits)
			}
			for _, b := range lists {
				vec.Plus(a, b, bits)
				vec.Inner(a, b, bits)
			}
		}
	}
	vec.Near([]api.Rat{{Num: whole.Nat(limbs.Of(3))}}, 5)
}
