package series_test

import (
	"math"
	"math/big"
	"slices"
	"strings"
	"testing"

	"girdle/api"
	"girdle/dyad"
	"girdle/limbs"
	"girdle/mat"
	"girdle/ratio"
	"girdle/series"
	"girdle/span"
	"girdle/whole"
)

// The bounds as the document tells them.
const (
	limbBits = 32 * 512
	minBits  = 8
	maxBits  = 512
	maxExp   = 1 << 16
)

// rat is the ratio of a text.
func rat(text string) api.Rat {
	x, e := ratio.Parse(text)
	if e != api.OK {
		panic("a test's ratio is wrong")
	}
	return x
}

// table is a table of a text: ratios with blanks between, rows with ; behind each.
func table(text string) [][]api.Rat {
	rows := [][]api.Rat{}
	for text != "" {
		var row string
		row, text, _ = strings.Cut(text, ";")
		list := []api.Rat{}
		for _, word := range strings.Fields(row) {
			list = append(list, rat(word))
		}
		rows = append(rows, list)
	}
	return rows
}

// power is 2 to the power of n; below 0 that of one of its size.
func power(n int) api.Rat {
	size, e := limbs.Left(limbs.Of(1), max(n, -n))
	if e != api.OK {
		panic("a test's number is beyond the bounds")
	}
	if n < 0 {
		return api.Rat{Num: whole.Of(1), Den: size}
	}
	return ratio.Whole(whole.Nat(size))
}

// at is a number times 2 to the power of exp.
func at(n int64, exp int) api.Dyad {
	a, e := dyad.Make(whole.Of(n), exp)
	if e != api.OK {
		panic("a test's number is beyond the bounds")
	}
	return a
}

// long is an odd number of so many digits to the base 2^32 that looks like no other.
func long(digits int, seed uint64) api.Nat {
	list := make(api.Nat, digits)
	for i := range list {
		seed = seed*6364136223846793005 + 1442695040888963407
		list[i] = uint32(seed>>32) | 1
	}
	return list
}

// made is Make's answer, where there is to be no error.
func made(t *testing.T, a [][]api.Rat, time api.Rat, bits int) series.Growth {
	t.Helper()
	p, e := series.Make(a, time, bits)
	if e != api.OK {
		t.Fatalf("Make of a table of %d rows, %d bits: error %d", len(a), bits, e)
	}
	return p
}

// points tells whether a table of spans is of these ratios alone.
func points(t *testing.T, what string, got [][]api.Span, want [][]api.Rat) {
	t.Helper()
	if len(got) != len(want) {
		t.Fatalf("%s: %d rows, not %d", what, len(got), len(want))
	}
	for i, row := range want {
		if len(got[i]) != len(row) {
			t.Fatalf("%s: row %d has %d places", what, i, len(got[i]))
		}
		for j, x := range row {
			lo, e := dyad.Cmp(got[i][j].Lo, x)
			hi, f := dyad.Cmp(got[i][j].Hi, x)
			if lo != 0 || hi != 0 || e != api.OK || f != api.OK {
				t.Errorf("%s: row %d, column %d: %s, not %s", what, i, j, span.Text(got[i][j]), ratio.Text(x))
			}
		}
	}
}

// P13.1

func TestTerms(t *testing.T) {
	for bits := minBits; bits <= maxBits; bits++ {
		// The first power of 2 times 1, 2 and so on that is long enough, by counting.
		want, product := 0, big.NewInt(1)
		for product.BitLen() < bits+2 {
			want++
			product.Mul(product, big.NewInt(2*int64(want)))
		}
		count, left := series.Terms(bits)
		if count != want || dyad.Check(left) != api.OK || dyad.Compare(left, at(1, 2-product.BitLen())) != 0 {
			t.Errorf("%d bits: %d terms, not %d", bits, count, want)
		}
		if dyad.Less(at(1, -bits), left) {
			t.Errorf("%d bits: too much is left", bits)
		}
	}
}

func TestTermsOfSomeBits(t *testing.T) {
	// 2^5 120 is 3840, of 12 bits; 2^6 720 is 46080, of 16; 2^7 5040 is 645120, of 20.
	for _, x := range []struct{ bits, count, exp int }{{8, 5, -10}, {9, 5, -10}, {10, 5, -10}, {11, 6, -14}, {14, 6, -14}, {15, 7, -18}, {18, 7, -18}, {19, 8, -22}} {
		count, left := series.Terms(x.bits)
		if count != x.count || dyad.Compare(left, at(1, x.exp)) != 0 {
			t.Errorf("%d bits: %d terms, and what is left has %v", x.bits, count, left)
		}
	}
}

// TestTermsAreEnough adds up what is left of a half's exponential.
func TestTermsAreEnough(t *testing.T) {
	for bits := minBits; bits <= maxBits; bits += 7 {
		count, left := series.Terms(bits)
		rest, term := new(big.Rat), big.NewRat(1, 1)
		for i := 1; i < count+60; i++ {
			if term.Mul(term, big.NewRat(1, 2*int64(i))); i >= count {
				rest.Add(rest, term)
			}
		}
		// What is behind that is less than the last one.
		if rest.Add(rest, term); rest.Cmp(ratOf(left)) > 0 {
			t.Errorf("%d bits: more is left", bits)
		}
	}
}

// P13.2

func TestMakesErrors(t *testing.T) {
	one, below := ratio.Of(1, 1), ratio.Of(-1, 1000)
	good, flat, great := table("1 2;3 4;"), table("1 2;"), table("0 1;0 0;")
	great[0][1] = power(64)
	wrong := table("1 2;3 4;")
	wrong[1][0] = api.Rat{Num: whole.Of(2), Den: limbs.Of(4)}
	over := table("1 2;3 4;")
	over[0][1] = ratio.Whole(whole.Nat(long(513, 1)))
	for i, x := range []struct {
		a    [][]api.Rat
		t    api.Rat
		bits int
		want api.Errno
	}{
		{good, one, 7, api.ErrRange}, {good, one, 513, api.ErrRange}, {good, one, 0, api.ErrRange}, {good, one, -8, api.ErrRange}, {good, one, math.MaxInt, api.ErrRange}, {good, one, math.MinInt, api.ErrRange},
		{good, below, 60, api.ErrRange}, {nil, below, 60, api.ErrRange}, {nil, one, 7, api.ErrRange},
		{flat, one, 7, api.ErrRange}, {wrong, one, 513, api.ErrRange}, {flat, below, 60, api.ErrRange}, {over, below, 60, api.ErrRange},
		{flat, one, 60, api.ErrShape}, {table("1 2;3;"), one, 60, api.ErrShape}, {table("1;2;"), one, 60, api.ErrShape}, {table("1 2;3 4 5;"), one, 60, api.ErrShape},
		{[][]api.Rat{{}}, one, 60, api.ErrShape}, {mat.Zero(16, 16)[:15], one, 60, api.ErrShape}, {slices.Repeat([][]api.Rat{slices.Repeat([]api.Rat{one}, 17)}, 17), one, 60, api.ErrShape},
		{wrong, one, 60, api.ErrForm}, {[][]api.Rat{{{}}}, one, 60, api.ErrForm}, {over, one, 60, api.ErrLimbs},
		{great, one, 60, api.ErrRange}, {great, ratio.Of(1, 2), 60, api.OK},
		{append(table("0 1;"), great[0]), one, 60, api.ErrRange},
		{good, one, 8, api.OK}, {good, one, 512, api.OK},
	} {
		p, e := series.Make(x.a, x.t, x.bits)
		if e != x.want {
			t.Errorf("the call %d: error %d, not %d", i, e, x.want)
		}
		if e != api.OK && (len(p.Exp) > 0 || len(p.Sum) > 0) {
			t.Errorf("the call %d: tables beside error %d", i, e)
		}
	}
}

// TestMostHalves is about the greatest norm of which there is an answer: 2^63 becomes a half when it is halved 64 times.
func TestMostHalves(t *testing.T) {
	much, _ := ratio.Add(power(63), power(-300))
	least, _ := ratio.Add(power(63), power(-7000))
	third, _ := ratio.Div(power(63), ratio.Of(3, 1))
	seventh, _ := ratio.Div(power(63), ratio.Of(7, 5))
	for i, x := range []struct {
		a, time api.Rat
		want    api.Errno
	}{
		{power(63), ratio.Of(1, 1), api.OK}, {ratio.Neg(power(63)), ratio.Of(1, 1), api.OK}, {ratio.Of(1, 1), power(63), api.OK}, {power(40), power(23), api.OK},
		{power(-900), power(963), api.OK}, {third, ratio.Of(3, 1), api.OK}, {ratio.Of(7, 5), seventh, api.OK}, {ratio.Of(-3, 1), third, api.OK},
		{much, ratio.Of(1, 1), api.ErrRange}, {least, ratio.Of(1, 1), api.ErrRange}, {ratio.Of(1, 1), much, api.ErrRange}, {ratio.Neg(much), ratio.Of(1, 1), api.ErrRange},
		{power(63), ratio.Of(1001, 1000), api.ErrRange}, {power(64), ratio.Of(1, 1), api.ErrRange}, {power(40), power(24), api.ErrRange},
		{power(16000), power(16000), api.ErrRange}, {ratio.Of(1, 1), power(16000), api.ErrRange}, {power(16000), power(-16000), api.OK},
	} {
		zero := ratio.Zero()
		p, e := series.Make([][]api.Rat{{zero, x.a}, {zero, zero}}, x.time, 60)
		if e != x.want {
			t.Errorf("the table %d: error %d, not %d", i, e, x.want)
		}
		if e != api.OK {
			continue
		}
		both, f := ratio.Mul(x.a, x.time)
		if held, g := span.HasRatio(p.Exp[0][1], both); f != api.OK || g != api.OK || !held {
			t.Errorf("the table %d: its time isn't held", i)
		}
	}
	// The norm is of a row, by its sizes.
	half, minus := power(62), ratio.Neg(power(62))
	zero := ratio.Zero()
	for i, x := range []struct {
		row  []api.Rat
		want api.Errno
	}{{[]api.Rat{zero, half, half}, api.OK}, {[]api.Rat{zero, half, minus}, api.OK}, {[]api.Rat{zero, minus, much}, api.ErrRange}, {[]api.Rat{zero, power(63), ratio.Of(-1, 1)}, api.ErrRange}} {
		if _, e := series.Make([][]api.Rat{x.row, {zero, zero, zero}, {zero, half, zero}}, ratio.Of(1, 1), 60); e != x.want {
			t.Errorf("the row %d: error %d, not %d", i, e, x.want)
		}
	}
}

// TestNoTimeAndNoPlaces is of what needs no reckoning.
func TestNoTimeAndNoPlaces(t *testing.T) {
	a := table("1 -2/3 5;0.1 7 1/9;3 3 -3;")
	for _, bits := range []int{minBits, 60, maxBits} {
		p := made(t, a, ratio.Zero(), bits)
		points(t, "Exp at once", p.Exp, mat.One(3))
		points(t, "Sum at once", p.Sum, mat.Zero(3, 3))
		p = made(t, mat.Zero(2, 2), ratio.Of(9, 4), bits)
		points(t, "Exp of nothing", p.Exp, mat.One(2))
		points(t, "Sum of nothing", p.Sum, table("9/4 0;0 9/4;"))
		for _, none := range [][][]api.Rat{nil, {}} {
			if p = made(t, none, ratio.Of(5, 1), bits); len(p.Exp) > 0 || len(p.Sum) > 0 {
				t.Error("places of none")
			}
		}
	}
	p := made(t, mat.Zero(2, 2), power(16000), 60)
	points(t, "Sum of nothing for long", p.Sum, [][]api.Rat{{power(16000), ratio.Zero()}, {ratio.Zero(), power(16000)}})
}

// TestPowersThatComeToNothing is of tables whose numbers need no more bits than there are.
func TestPowersThatComeToNothing(t *testing.T) {
	p := made(t, table("0 1;0 0;"), ratio.Of(3, 1), 40)
	points(t, "Exp", p.Exp, table("1 3;0 1;"))
	points(t, "Sum", p.Sum, table("3 9/2;0 3;"))
	p = made(t, table("0 0 0;-4 0 0;1/2 8 0;"), ratio.Of(5, 2), 40)
	points(t, "Exp", p.Exp, table("1 0 0;-10 1 0;-395/4 20 1;"))
	for _, bits := range []int{8, 60, 512} {
		p = made(t, table("0 0 3/2 -7;0 0 1/8 0;0 0 0 0;0 0 0 0;"), ratio.Of(3, 4), bits)
		points(t, "Exp", p.Exp, table("1 0 9/8 -21/4;0 1 3/32 0;0 0 1 0;0 0 0 1;"))
		points(t, "Sum", p.Sum, table("3/4 0 27/64 -63/32;0 3/4 9/256 0;0 0 3/4 0;0 0 0 3/4;"))
	}
	// Also where it is to be halved as often as may be.
	p = made(t, [][]api.Rat{{ratio.Zero(), power(63)}, {ratio.Zero(), ratio.Zero()}}, ratio.Of(1, 1), 8)
	points(t, "Exp", p.Exp, [][]api.Rat{{ratio.Of(1, 1), power(63)}, {ratio.Zero(), ratio.Of(1, 1)}})
	points(t, "Sum", p.Sum, [][]api.Rat{{ratio.Of(1, 1), power(62)}, {ratio.Zero(), ratio.Of(1, 1)}})
}
