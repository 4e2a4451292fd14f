package series_test

import (
	"math"
	"slices"
	"testing"

	"girdle/api"
	"girdle/dyad"
	"girdle/mat"
	"girdle/ratio"
	"girdle/series"
	"girdle/span"
)

// P13.3

// of is the span from a small number to another one.
func of(lo, hi int64) api.Span { return api.Span{Lo: at(lo, 0), Hi: at(hi, 0)} }

// wide is a table of so many rows and columns of spans that looks like no other, the same in every run.
func wide(rows, cols int, seed uint64) [][]api.Span {
	list := make([][]api.Span, rows)
	for i := range list {
		list[i] = make([]api.Span, cols)
		for j := range list[i] {
			seed = seed*6364136223846793005 + 1442695040888963407
			lo := int64(seed>>44) - 1<<19
			list[i][j] = api.Span{Lo: at(lo, -10), Hi: at(lo+int64(seed>>30&0xffff), -10)}
		}
	}
	return list
}

// same tells whether two spans are the same.
func same(a, b api.Span) bool {
	return span.Check(a) == api.OK && dyad.Compare(a.Lo, b.Lo) == 0 && dyad.Compare(a.Hi, b.Hi) == 0
}

// alike tells whether two tables of spans are the same.
func alike(a, b [][]api.Span) bool {
	return slices.EqualFunc(a, b, func(x, y []api.Span) bool { return slices.EqualFunc(x, y, same) })
}

func TestTwiceIsByLayer8(t *testing.T) {
	for seed := range uint64(20) {
		n := int(seed % 5)
		p := series.Growth{Exp: wide(n, n, seed), Sum: wide(n, n, seed+100)}
		for _, bits := range []int{2, 8, 60, 4096} {
			got, e := series.Twice(p, bits)
			if e != api.OK {
				t.Fatalf("%d places, %d bits: error %d", n, bits, e)
			}
			product, _ := mat.Times(p.Exp, p.Sum, bits)
			sum, _ := mat.Plus(p.Sum, product, bits)
			exp, _ := mat.Times(p.Exp, p.Exp, bits)
			if !alike(got.Sum, sum) || !alike(got.Exp, exp) {
				t.Errorf("%d places, %d bits: another growth", n, bits)
			}
		}
	}
}

func TestTwiceOfPoints(t *testing.T) {
	p := series.Growth{Exp: [][]api.Span{{of(1, 1), of(3, 3)}, {of(0, 0), of(1, 1)}}, Sum: [][]api.Span{{of(3, 3), span.Point(at(9, -1))}, {of(0, 0), of(3, 3)}}}
	got, e := series.Twice(p, 40)
	if e != api.OK {
		t.Fatalf("error %d", e)
	}
	points(t, "Exp", got.Exp, table("1 6;0 1;"))
	points(t, "Sum", got.Sum, table("6 18;0 6;"))
	// One number: from 1 to 2 grows so that from 3 to 5 becomes from 3 and 1 times 3 to 5 and 2 times 5; 2 bits round that.
	p = series.Growth{Exp: [][]api.Span{{of(1, 2)}}, Sum: [][]api.Span{{of(3, 5)}}}
	got, e = series.Twice(p, 10)
	if e != api.OK || !same(got.Exp[0][0], of(1, 4)) || !same(got.Sum[0][0], of(6, 15)) {
		t.Errorf("%v, error %d", got, e)
	}
	got, e = series.Twice(p, 2)
	if e != api.OK || !same(got.Exp[0][0], of(1, 4)) || !same(got.Sum[0][0], of(6, 24)) {
		t.Errorf("in 2 bits: %v, error %d", got, e)
	}
	if got, e = series.Twice(series.Growth{}, 40); e != api.OK || len(got.Exp) > 0 || len(got.Sum) > 0 {
		t.Errorf("of no places: %v, error %d", got, e)
	}
}

func TestTwiceHoldsTwiceTheTime(t *testing.T) {
	for seed := range uint64(8) {
		a, time := mixed(1+int(seed%4), 3, seed), ratio.Of(int64(seed)+1, 7)
		longer, _ := ratio.Mul(time, ratio.Of(2, 1))
		exp, sum := truth(a, longer)
		for _, bits := range []int{8, 60, 200} {
			p, e := series.Twice(made(t, a, time, bits), bits)
			if e != api.OK {
				t.Fatalf("%d bits: error %d", bits, e)
			}
			holds(t, "Exp of twice", p.Exp, exp, bits)
			holds(t, "Sum of twice", p.Sum, sum, bits)
		}
	}
}

func TestTwicesErrors(t *testing.T) {
	great, small := span.Point(at(1, maxExp)), span.Point(at(1, -maxExp))
	row := func(list ...api.Span) [][]api.Span { return [][]api.Span{list} }
	for i, x := range []struct {
		p    series.Growth
		bits int
		want api.Errno
	}{
		{series.Growth{Exp: row(of(1, 2)), Sum: row(of(1, 2))}, 1, api.ErrRange}, {series.Growth{Exp: row(of(1, 2)), Sum: row(of(1, 2))}, 4097, api.ErrRange}, {series.Growth{Exp: row(of(1, 2)), Sum: row(of(1, 2))}, math.MinInt, api.ErrRange},
		{series.Growth{Exp: row(great), Sum: row(of(1, 1))}, 60, api.ErrLimbs}, {series.Growth{Exp: row(great), Sum: row(of(0, 0))}, 60, api.ErrRange}, {series.Growth{Exp: row(small), Sum: row(of(0, 0))}, 60, api.ErrRange}, {series.Growth{Exp: row(of(2, 2)), Sum: row(great)}, 60, api.ErrRange},
		{series.Growth{Exp: row(of(1, 1)), Sum: row(great)}, 60, api.ErrRange}, {series.Growth{Exp: row(small), Sum: row(of(1, 1))}, 60, api.ErrLimbs},
		{series.Growth{Exp: row(of(1, 2), of(1, 2)), Sum: row(of(1, 2))}, 60, api.ErrShape}, {series.Growth{Exp: wide(2, 2, 1), Sum: wide(3, 3, 1)}, 60, api.ErrShape}, {series.Growth{Exp: wide(3, 2, 1), Sum: wide(2, 2, 1)}, 60, api.ErrShape},
		{series.Growth{Exp: [][]api.Span{{of(1, 1), of(1, 1)}, {of(1, 1)}}, Sum: wide(2, 2, 1)}, 60, api.ErrShape}, {series.Growth{Exp: wide(2, 2, 1), Sum: [][]api.Span{{of(1, 1)}, {of(1, 1), of(1, 1)}}}, 60, api.ErrShape},
		// The integral's error is ahead of the exponential's.
		{series.Growth{Exp: [][]api.Span{{of(1, 1), great}, {great, of(1, 1)}}, Sum: [][]api.Span{{of(0, 0), of(0, 0)}, {of(0, 0), of(0, 0)}}}, 60, api.ErrRange},
		{series.Growth{Exp: [][]api.Span{{of(1, 1), great}, {great, of(1, 1)}}, Sum: [][]api.Span{{of(1, 1), of(0, 0)}, {small, of(0, 0)}}}, 60, api.ErrLimbs},
	} {
		p, e := series.Twice(x.p, x.bits)
		if e != x.want || len(p.Exp) > 0 || len(p.Sum) > 0 {
			t.Errorf("the growth %d: error %d, not %d; %d rows", i, e, x.want, len(p.Exp)+len(p.Sum))
		}
	}
}

func TestScaled(t *testing.T) {
	for seed := range uint64(12) {
		a, by := wide(int(seed%4), int(seed%3), seed), wide(1, 1, seed+50)[0][0]
		for _, bits := range []int{2, 7, 60, 4096} {
			got, e := series.Scaled(a, by, bits)
			if e != api.OK || len(got) != len(a) {
				t.Fatalf("%d bits: %d rows, error %d", bits, len(got), e)
			}
			for i, row := range a {
				if len(got[i]) != len(row) {
					t.Fatalf("%d bits: row %d has %d places", bits, i, len(got[i]))
				}
				for j, x := range row {
					if want, _ := span.Mul(x, by, bits); !same(got[i][j], want) {
						t.Errorf("%d bits: row %d, column %d: %v", bits, i, j, got[i][j])
					}
				}
			}
		}
	}
	got, e := series.Scaled([][]api.Span{{of(1, 2)}, {}, {of(-1, 3), of(-7, -5)}}, of(-1, 3), 2)
	if want := [][]api.Span{{of(-2, 6)}, {}, {of(-3, 12), of(-24, 8)}}; e != api.OK || !alike(got, want) {
		t.Errorf("of rows of unlike lengths: %v, error %d", got, e)
	}
}

func TestScaledsErrors(t *testing.T) {
	a := [][]api.Span{{of(1, 1), of(2, 2)}, {span.Point(at(1, maxExp)), of(3, 3)}}
	long := span.Point(api.Dyad{Man: api.Int{Size: slices.Repeat(api.Nat{math.MaxUint32}, 512)}})
	for i, x := range []struct {
		a    [][]api.Span
		by   api.Span
		bits int
		want api.Errno
	}{
		{a, of(1, 1), 60, api.OK}, {a, of(2, 2), 60, api.ErrRange}, {a, of(1, 1), 1, api.ErrRange}, {a, of(1, 1), 4097, api.ErrRange}, {a[:1], of(2, 2), 60, api.OK}, {a[:1], long, 60, api.OK},
		{[][]api.Span{{long}}, of(1, 3), 60, api.ErrLimbs}, {[][]api.Span{{long}}, of(1, 1), 60, api.OK}, {nil, of(1, 1), 1, api.OK}, {[][]api.Span{{}}, of(1, 1), 1, api.OK},
	} {
		if got, e := series.Scaled(x.a, x.by, x.bits); e != x.want || e != api.OK && len(got) > 0 {
			t.Errorf("the call %d: error %d, not %d; %d rows", i, e, x.want, len(got))
		}
	}
}
