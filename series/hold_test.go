package series_test

import (
	"math/big"
	"testing"

	"girdle/api"
	"girdle/dyad"
	"girdle/limbs"
	"girdle/ratio"
	"girdle/series"
	"girdle/span"
	"girdle/whole"
)

// P13.2: what is held, and how wide it is.

// exact is in how many bits the truth is reckoned, and close how near to it that is for certain, as a power of 2 of the greatest number.
const (
	exact = 4000
	close = -2500
)

// natOf is a number of math/big.
func natOf(a api.Nat) *big.Int {
	n := new(big.Int)
	for i := len(a) - 1; i >= 0; i-- {
		n.Or(n.Lsh(n, 32), big.NewInt(int64(a[i])))
	}
	return n
}

// intOf is a whole number of math/big.
func intOf(a api.Int) *big.Int {
	n := natOf(a.Size)
	if a.Minus {
		n.Neg(n)
	}
	return n
}

// ratOf is a number as a ratio of math/big.
func ratOf(a api.Dyad) *big.Rat {
	above, below := intOf(a.Man), big.NewInt(1)
	if a.Exp < 0 {
		below.Lsh(below, uint(-a.Exp))
	} else {
		above.Lsh(above, uint(a.Exp))
	}
	return new(big.Rat).SetFrac(above, below)
}

// floatOf is a number as one of math/big, exactly.
func floatOf(a api.Dyad) *big.Float {
	x := new(big.Float).SetPrec(exact).SetInt(intOf(a.Man))
	return x.SetMantExp(x, a.Exp)
}

// float is a ratio in as many bits as the truth is reckoned in.
func float(r api.Rat) *big.Float {
	x := new(big.Float).SetPrec(exact).SetInt(intOf(r.Num))
	return x.Quo(x, new(big.Float).SetPrec(exact).SetInt(natOf(r.Den)))
}

// floats is a table of numbers of math/big.
type floats [][]*big.Float

// zeros is a square table of nothing.
func zeros(n int) floats {
	a := make(floats, n)
	for i := range a {
		a[i] = make([]*big.Float, n)
		for j := range a[i] {
			a[i][j] = new(big.Float).SetPrec(exact)
		}
	}
	return a
}

// times is a table times another one.
func (a floats) times(b floats) floats {
	c, x := zeros(len(a)), new(big.Float).SetPrec(exact)
	for i := range a {
		for j := range a {
			for k := range a {
				if a[i][k].Sign() != 0 && b[k][j].Sign() != 0 {
					c[i][j].Add(c[i][j], x.Mul(a[i][k], b[k][j]))
				}
			}
		}
	}
	return c
}

// plus is a table and another one.
func (a floats) plus(b floats) floats {
	c := zeros(len(a))
	for i := range a {
		for j := range a {
			c[i][j].Add(a[i][j], b[i][j])
		}
	}
	return c
}

// by is a table times a number.
func (a floats) by(x *big.Float) floats {
	c := zeros(len(a))
	for i := range a {
		for j := range a {
			c[i][j].Mul(a[i][j], x)
		}
	}
	return c
}

// most is the greatest size in a table.
func (a floats) most() *big.Float {
	most := new(big.Float).SetPrec(exact)
	for _, row := range a {
		for _, x := range row {
			if size := new(big.Float).Abs(x); size.Cmp(most) > 0 {
				most = size
			}
		}
	}
	return most
}

// truth is a table's exponential, and its integral: of a time halved till next to nothing is left, a long sum, and as many squares.
func truth(a [][]api.Rat, t api.Rat) (floats, floats) {
	time, x := float(t), zeros(len(a))
	for i, row := range a {
		for j, r := range row {
			x[i][j].Mul(float(r), time)
		}
	}
	halves := max(x.most().MantExp(nil)+20, 0)
	small := new(big.Float).SetPrec(exact).SetMantExp(big.NewFloat(1), -halves)
	x, time = x.by(small), new(big.Float).Mul(time, small)
	one := zeros(len(a))
	for i := range a {
		one[i][i].SetInt64(1)
	}
	exp, sum, term := zeros(len(a)), zeros(len(a)), one
	for i := int64(1); term.most().Sign() != 0 && term.most().MantExp(nil) > -exact; i++ {
		exp = exp.plus(term)
		part := new(big.Float).SetPrec(exact).Quo(big.NewFloat(1), new(big.Float).SetInt64(i))
		sum = sum.plus(term.by(part))
		term = term.times(x).by(part)
	}
	sum = sum.by(time)
	for range halves {
		sum = sum.plus(exp.times(sum))
		exp = exp.times(exp)
	}
	return exp, sum
}

// holds tells whether each span is in its form, has no more bits than that, and holds what is true.
func holds(t *testing.T, what string, got [][]api.Span, want floats, bits int) {
	t.Helper()
	if len(got) != len(want) {
		t.Fatalf("%s: %d rows, not %d", what, len(got), len(want))
	}
	off := want.most()
	off.SetMantExp(off, close)
	for i, row := range got {
		if len(row) != len(want) {
			t.Fatalf("%s: row %d has %d places", what, i, len(row))
		}
		for j, s := range row {
			if e := span.Check(s); e != api.OK || limbs.Bits(s.Lo.Man.Size) > bits || limbs.Bits(s.Hi.Man.Size) > bits {
				t.Fatalf("%s: row %d, column %d: error %d, or too many bits", what, i, j, e)
			}
			low, high := new(big.Float).Sub(floatOf(s.Lo), off), new(big.Float).Add(floatOf(s.Hi), off)
			if low.Cmp(want[i][j]) > 0 || high.Cmp(want[i][j]) < 0 {
				t.Errorf("%s: row %d, column %d: from %g to %g, not %g", what, i, j, floatOf(s.Lo), floatOf(s.Hi), want[i][j])
			}
		}
	}
}

// narrow tells whether no span is wider than so many bits ask for: some of the last of each one's bits.
func narrow(t *testing.T, what string, got [][]api.Span, want floats, bits int) {
	t.Helper()
	for i, row := range got {
		for j, s := range row {
			width := new(big.Float).Sub(floatOf(s.Hi), floatOf(s.Lo))
			may := new(big.Float).Abs(want[i][j])
			if width.Cmp(may.SetMantExp(may, 3-bits)) > 0 {
				t.Errorf("%s: row %d, column %d: %g is held from %g to %g", what, i, j, want[i][j], floatOf(s.Lo), floatOf(s.Hi))
			}
		}
	}
}

// right tells whether a growth holds what is true, and is narrow.
func right(t *testing.T, a [][]api.Rat, time api.Rat, bits ...int) {
	t.Helper()
	exp, sum := truth(a, time)
	for _, n := range bits {
		p := made(t, a, time, n)
		what := "of a table of " + ratio.Text(a[0][0]) + " at first, " + ratio.Text(ratio.Of(int64(n), 1)) + " bits"
		holds(t, "Exp "+what, p.Exp, exp, n)
		holds(t, "Sum "+what, p.Sum, sum, n)
		narrow(t, "Exp "+what, p.Exp, exp, n)
		narrow(t, "Sum "+what, p.Sum, sum, n)
	}
}

// mixed is a square table that looks like no other, the same in every run, of ratios from -size to size.
func mixed(n int, size, seed uint64) [][]api.Rat {
	a := make([][]api.Rat, n)
	for i := range a {
		a[i] = make([]api.Rat, n)
		for j := range a[i] {
			seed = seed*6364136223846793005 + 1442695040888963407
			below := seed>>30&15 + 1
			a[i][j] = ratio.Of(int64(seed>>40%(2*size*below+1))-int64(size*below), int64(below))
		}
	}
	return a
}

func TestHeldOfOneNumber(t *testing.T) {
	for _, a := range []string{"1", "-1", "1/2", "-1/2", "1/3", "-7/5", "30", "-30", "1000", "-1000", "1/1000000007", "-1/1000000007"} {
		for _, time := range []string{"1", "1/2", "2/3", "17", "1/100000"} {
			right(t, table(a+";"), rat(time), 8, 9, 33, 60, 512)
		}
	}
}

func TestHeldOfTables(t *testing.T) {
	for _, a := range []string{
		"0 -1;1 0;", "0 1;-4 -1/2;", "0 1;4 0;", "-1 1000;0 -1;", "-1000 1;0 -1;", "3 0;-1/7 3;", "-2 1 0;1 -2 1;0 1 -2;", "0 1 0;0 0 1;1/3 -1 -2/7;", "0 0 0;-4 0 0;1/2 8 0;", "1 2 3 4;0 -5 1/2 1/3;7 0 0 1;1 1 1 -1;",
	} {
		for _, time := range []string{"1", "1/1024", "5/3", "40"} {
			right(t, table(a), rat(time), 8, 60, 160)
		}
	}
	for seed := range uint64(12) {
		right(t, mixed(2+int(seed%4), 1+seed, seed), ratio.Of(int64(seed)+1, 5), 8, 53, 100)
	}
	right(t, mixed(3, 4, 99), ratio.Of(2, 7), 512)
	right(t, mixed(16, 1, 7), ratio.Of(1, 3), 40)
}

// TestHeldWhereItIsHalvedOften is of tables that stay within bounds however long the time is.
func TestHeldWhereItIsHalvedOften(t *testing.T) {
	right(t, table("0 -1;1 0;"), power(40), 8, 60)
	right(t, table("0 -1;1 0;"), power(63), 60)
	right(t, table("-1/2 1;1 -3;"), ratio.Of(10000, 1), 60)
	right(t, table("-1 3 0 0;0 0 0 2;0 0 -1 1;0 -2 0 0;"), ratio.Of(12345, 1), 60)
}

// TestHeldWhereMuchIsLost is of tables of great numbers that cancel each other, doubling by doubling: few more bits than are asked for are too few.
func TestHeldWhereMuchIsLost(t *testing.T) {
	right(t, table("10 -100;1 -10;"), rat("1/11"), 60)
	right(t, table("10 -100;1 -10;"), rat("1000"), 8, 60)
	// Its exponential is 1 and the table times the time, of which there is next to nothing left in a corner.
	near, _ := ratio.Add(rat("1/10"), power(-70))
	right(t, table("10 -100;1 -10;"), near, 60)
	right(t, table("-1000 999;-1001 1000;"), rat("20"), 8, 60, 512)
	right(t, table("-1000 999;-1001 999;"), rat("1000"), 8, 60)
	right(t, table("-100000 99999;-100001 100000;"), rat("1000"), 8, 60)
	right(t, table("-100000000 99999999;-100000001 100000000;"), rat("30"), 60)
}

// TestHeldOfShortTimes is of numbers that are next to nothing.
func TestHeldOfShortTimes(t *testing.T) {
	right(t, table("0 1 0;0 0 1;1/3 -1 -2/7;"), power(-40), 8, 60)
	right(t, table("1 2;-3 4;"), power(-1000), 60)
	right(t, [][]api.Rat{{power(-300), ratio.Of(1, 1)}, {power(-200), ratio.Zero()}}, ratio.Of(1, 1), 60)
}

// TestNoLinkIsNothing is of places to which nothing leads, and of parts that have nothing to do with each other.
func TestNoLinkIsNothing(t *testing.T) {
	a := table("-1000 1 0 0;0 1/3 0 0;0 0 100 7;0 0 0 -100;")
	right(t, a, ratio.Of(3, 1), 60)
	p := made(t, a, ratio.Of(3, 1), 60)
	for i, row := range a {
		for j := range row {
			if (i > j || i/2 != j/2) && (span.Size(p.Exp[i][j]).Man.Size != nil || span.Size(p.Sum[i][j]).Man.Size != nil) {
				t.Errorf("row %d, column %d isn't nothing", i, j)
			}
		}
	}
	// Where powers cancel each other it is nothing too, about.
	p = made(t, table("0 1 1 0;0 1 0 1;0 0 1 -1;0 0 0 1;"), ratio.Of(1, 3), 60)
	if s := p.Exp[0][3]; !span.Has(s, at(0, 0)) || dyad.Less(at(1, -60), span.Size(s)) {
		t.Errorf("what is cancelled is %v", s)
	}
}

// TestHeldFarApart is of numbers that layer 5 can't hold at one power of 2, or can't hold at all.
func TestHeldFarApart(t *testing.T) {
	for i, x := range []struct {
		a    string
		time api.Rat
	}{
		{"-1000000;", ratio.Of(1, 1)}, {"-1;", power(63)}, {"-50000 1;0 1;", ratio.Of(1, 1)},
		{"40000;", ratio.Of(1, 1)}, {"-40000;", ratio.Of(1, 1)}, {"20000 0;0 -20000;", ratio.Of(1, 1)}, {"20000 1;0 -20000;", ratio.Of(1, 1)}, {"-20000 0;1 20000;", ratio.Of(1, 1)}, {"-1 1;0 -50000;", ratio.Of(3, 1)},
		{"1 2;-3 4;", power(-16000)}, {"1 0;-3 0;", power(-16300)},
	} {
		a := table(x.a)
		exp, sum := truth(a, x.time)
		p := made(t, a, x.time, 60)
		holds(t, "Exp of far ones", p.Exp, exp, 60)
		holds(t, "Sum of far ones", p.Sum, sum, 60)
		if i > 2 {
			continue
		}
		// What falls to next to nothing is held as such.
		if s := p.Exp[0][0]; dyad.Sign(s.Lo) < 0 || dyad.Less(at(1, -20000), s.Hi) {
			t.Errorf("%s is held too widely", x.a)
		}
		narrow(t, "Sum of what falls", p.Sum, sum, 60)
	}
	// Of what is too great there is no span.
	for _, a := range []string{"50000;", "9000000000000000000;", "50000 1;0 1;"} {
		if p, e := series.Make(table(a), ratio.Of(1, 1), 60); e == api.OK || len(p.Exp) > 0 || len(p.Sum) > 0 {
			t.Errorf("%s: error %d", a, e)
		}
	}
}

// TestHeldNextToOne is of what differs from 1 by less than layer 5 has room for.
func TestHeldNextToOne(t *testing.T) {
	one := at(1, 0)
	for _, bits := range []int{8, 60, 512} {
		up := made(t, [][]api.Rat{{power(-16300)}}, ratio.Of(1, 1), bits)
		for what, s := range map[string]api.Span{"Exp": up.Exp[0][0], "Sum": up.Sum[0][0]} {
			if dyad.Less(one, s.Lo) || !dyad.Less(one, s.Hi) || dyad.Less(at(1+1<<7, -7), s.Hi) {
				t.Errorf("%d bits: %s of what grows is %s", bits, what, span.Text(s))
			}
		}
		down := made(t, [][]api.Rat{{ratio.Neg(power(-16300))}}, ratio.Of(1, 1), bits)
		for what, s := range map[string]api.Span{"Exp": down.Exp[0][0], "Sum": down.Sum[0][0]} {
			if dyad.Less(s.Hi, one) || !dyad.Less(s.Lo, one) || dyad.Less(s.Lo, at(1<<8-1, -8)) {
				t.Errorf("%d bits: %s of what falls is %s", bits, what, span.Text(s))
			}
		}
	}
}

// TestHeldOfLongRatios is of numbers that have no room for a bit more.
func TestHeldOfLongRatios(t *testing.T) {
	one := ratio.Of(1, 1)
	long1, long2 := long(512, 1), long(512, 2)
	both, e := ratio.Make(whole.Nat(long1), api.Int{Minus: true, Size: long2})
	if e != api.OK {
		t.Fatal("a test's ratio is wrong")
	}
	part := api.Rat{Num: whole.Of(1), Den: long1}
	for i, x := range []struct {
		a    [][]api.Rat
		time api.Rat
	}{
		{[][]api.Rat{{both}}, one}, {[][]api.Rat{{one}}, ratio.Neg(both)}, {[][]api.Rat{{both}}, ratio.Neg(both)}, {[][]api.Rat{{part, one}, {both, part}}, ratio.Of(2, 3)},
		{[][]api.Rat{{api.Rat{Num: whole.Nat(long1), Den: limbs.Of(1)}}}, part}, {[][]api.Rat{{one}}, part},
	} {
		exp, sum := truth(x.a, x.time)
		p := made(t, x.a, x.time, 60)
		what := "of long ratios " + ratio.Text(ratio.Of(int64(i), 1))
		holds(t, what, p.Exp, exp, 60)
		holds(t, what, p.Sum, sum, 60)
		narrow(t, what, p.Exp, exp, 60)
		narrow(t, what, p.Sum, sum, 60)
	}
}

// TestHeldOfRatiosNextToOne is of a time of long numbers that is more or less than 1 by less than any bits tell.
func TestHeldOfRatiosNextToOne(t *testing.T) {
	one, n := at(1, 0), whole.Nat(long(512, 3))
	for _, x := range []int64{-2, 2} {
		other, _ := whole.Add(n, whole.Of(x))
		time, e := ratio.Make(other, n)
		if e != api.OK || limbs.Bits(time.Den) < limbBits-40 {
			t.Fatal("a test's ratio is wrong")
		}
		s := made(t, table("0;"), time, 60).Sum[0][0]
		if x < 0 && (!dyad.Less(s.Lo, one) || dyad.Less(s.Hi, one)) || x > 0 && (!dyad.Less(one, s.Hi) || dyad.Less(one, s.Lo)) {
			t.Errorf("what is off by %d is held in %v", x, s)
		}
	}
}

// TestMoreBitsAreNoWider holds what more bits tell against what fewer do.
func TestMoreBitsAreNoWider(t *testing.T) {
	for _, a := range [][][]api.Rat{table("1;"), table("0 -1;1 0;"), table("-1 1000;0 -1;"), mixed(3, 5, 5)} {
		before := made(t, a, ratio.Of(7, 3), 8)
		for bits := 9; bits <= 140; bits++ {
			p := made(t, a, ratio.Of(7, 3), bits)
			for i, row := range p.Exp {
				for j := range row {
					for _, x := range [][2]api.Span{{before.Exp[i][j], p.Exp[i][j]}, {before.Sum[i][j], p.Sum[i][j]}} {
						was, _ := span.Width(x[0])
						is, _ := span.Width(x[1])
						if dyad.Less(was, is) {
							t.Errorf("%d bits: row %d, column %d is wider", bits, i, j)
						}
					}
				}
			}
			before = p
		}
	}
}
