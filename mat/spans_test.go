package mat_test

import (
	"math"
	"slices"
	"strconv"
	"strings"
	"testing"

	"girdle/api"
	"girdle/dyad"
	"girdle/limbs"
	"girdle/mat"
	"girdle/ratio"
	"girdle/span"
	"girdle/vec"
	"girdle/whole"
)

// The bounds as the document tells them.
const (
	maxExp  = 1 << 16
	maxBits = 4096
)

// at is a number times 2 to the power of exp.
func at(n int64, exp int) api.Dyad {
	a, e := dyad.Make(whole.Of(n), exp)
	if e != api.OK {
		panic("a test's number is beyond the bounds")
	}
	return a
}

// of is the span from a small number to another one.
func of(lo, hi int64) api.Span { return api.Span{Lo: at(lo, 0), Hi: at(hi, 0)} }

// great is a number alone, times 2 to the power of exp.
func great(n int64, exp int) api.Span { return span.Point(at(n, exp)) }

// most is the greatest number of 512 digits, alone.
func most() api.Span {
	return span.Point(api.Dyad{Man: api.Int{Size: slices.Repeat(api.Nat{math.MaxUint32}, 512)}})
}

// spans is spans of a text: whole numbers, those with .. between from the one to the other; with blanks between two.
func spans(text string) []api.Span {
	list := []api.Span{}
	for _, word := range strings.Fields(text) {
		lo, hi, ok := strings.Cut(word, "..")
		if !ok {
			hi = lo
		}
		x, e := strconv.ParseInt(lo, 10, 64)
		y, f := strconv.ParseInt(hi, 10, 64)
		if e != nil || f != nil {
			panic("a test's span is wrong")
		}
		list = append(list, of(x, y))
	}
	return list
}

// wide is a table of spans of a text: rows with ; behind each.
func wide(text string) [][]api.Span {
	rows := [][]api.Span{}
	for text != "" {
		var row string
		row, text, _ = strings.Cut(text, ";")
		rows = append(rows, spans(row))
	}
	return rows
}

// wideText is a table's spans with blanks between, rows with ; behind each.
func wideText(rows [][]api.Span) string {
	var out strings.Builder
	for _, row := range rows {
		for i, x := range row {
			if i > 0 {
				out.WriteString(" ")
			}
			out.WriteString(span.Text(x))
		}
		out.WriteString(";")
	}
	return out.String()
}

// spread is a table of so many rows and columns that looks like no other, the same in every run.
func spread(rows, cols int, seed uint64) [][]api.Span {
	list := make([][]api.Span, rows)
	for i := range list {
		list[i] = make([]api.Span, cols)
		for j := range list[i] {
			seed = seed*6364136223846793005 + 1442695040888963407
			lo := int64(seed>>44) - 1<<19
			list[i][j] = api.Span{Lo: at(lo, -10), Hi: at(lo+int64(seed>>30&0xffff), -10)}
		}
	}
	return list
}

// with is a table with another span at one place.
func with(rows [][]api.Span, i, j int, x api.Span) [][]api.Span {
	rows = slices.Clone(rows)
	rows[i] = slices.Clone(rows[i])
	rows[i][j] = x
	return rows
}

// same tells whether two spans are the same, and may be.
func same(a, b api.Span) bool {
	return span.Check(a) == api.OK && dyad.Compare(a.Lo, b.Lo) == 0 && dyad.Compare(a.Hi, b.Hi) == 0
}

// are tells whether a call's answer is that table; with an error there is to be none.
func are(t *testing.T, what string, got [][]api.Span, e api.Errno, want [][]api.Span, wantE api.Errno) {
	t.Helper()
	if e != wantE {
		t.Fatalf("%s: error %d, not %d", what, e, wantE)
	}
	if len(got) > 0 && e != api.OK {
		t.Fatalf("%s: rows beside error %d", what, e)
	}
	if !slices.EqualFunc(got, want, func(a, b []api.Span) bool { return slices.EqualFunc(a, b, same) }) {
		t.Fatalf("%s: %.200s, not %.200s", what, wideText(got), wideText(want))
	}
}

// areList tells that of a list.
func areList(t *testing.T, what string, got []api.Span, e api.Errno, want []api.Span, wantE api.Errno) {
	t.Helper()
	if len(got) > 0 && e != api.OK {
		t.Fatalf("%s: spans beside error %d", what, e)
	}
	if e != wantE || !slices.EqualFunc(got, want, same) {
		t.Fatalf("%s: %.200s, error %d, not %.200s, error %d", what, wideText([][]api.Span{got}), e, wideText([][]api.Span{want}), wantE)
	}
}

// size tells whether a call's answer is that number; with an error it is to be 0.
func size(t *testing.T, what string, got api.Dyad, e api.Errno, want api.Dyad, wantE api.Errno) {
	t.Helper()
	if wantE != api.OK {
		want = api.Dyad{}
	}
	if e != wantE || dyad.Check(got) != api.OK || dyad.Compare(got, want) != 0 {
		t.Fatalf("%s: %v, error %d, not %v, error %d", what, got, e, want, wantE)
	}
}

// wrongBits is how many bits can't be rounded to.
func wrongBits() []int { return []int{math.MinInt, -1, 0, 1, maxBits + 1, math.MaxInt} }

// P8.3

func TestNear(t *testing.T) {
	got, e := mat.Near(table("21 -1/3;0 1000;"), 4)
	if e != api.OK || wideText(got) != "20..22 -11/32..-5/16;0..0 960..1024;" {
		t.Errorf("Near: %s, error %d", wideText(got), e)
	}
	for n := range maxDim + 2 {
		a := mixed(n, 3, 11)
		var want [][]api.Span
		for _, row := range a {
			near, _ := vec.Near(row, 9)
			want = append(want, near)
		}
		got, e := mat.Near(a, 9)
		are(t, "Near", got, e, want, api.OK)
	}
	for _, bits := range wrongBits() {
		got, e := mat.Near(table("1;2;"), bits)
		are(t, "Near to wrong bits", got, e, nil, api.ErrRange)
		for _, rows := range ragged() {
			got, e := mat.Near(table(rows), bits)
			are(t, "Near of "+rows, got, e, nil, api.ErrShape)
		}
	}
}

func TestReckoningOfSpans(t *testing.T) {
	for _, x := range []struct {
		a, b string
		bits int
		want string
	}{
		{"1 2;3 4;", "0 1;1 0;", 20, "2 1;4 3;"},
		{"1..2;", "-1..3;", 20, "-2..6;"},
		{"1..2 0;0 -1;", "-1..3 2;4 0..5;", 20, "-2..6 2..4;-4 -5..0;"},
		{"1 1 1;", "5;5;5;", 2, "12..24;"},
		{"20 1 -1;", "1;1;1;", 3, "16..24;"},
		{"", "1;", 20, ""},
		{";;", "", 20, ";;"},
		{"1 2;", ";;", 20, ";"},
	} {
		got, e := mat.Times(wide(x.a), wide(x.b), x.bits)
		are(t, "Times of "+x.a+" and "+x.b, got, e, wide(x.want), api.OK)
	}
	for _, x := range []struct {
		a, x string
		bits int
		want string
	}{
		{"1 2;3 4;", "1 -1", 20, "-1 -1"}, {"1..2 -3;", "-1..1 2..4", 20, "-14..-4"}, {"1 1 1;", "5 5 5", 2, "12..24"}, {"1;5;", "5", 2, "4..6 24..32"}, {";;", "", 20, "0 0"}, {"", "1 2", 20, ""},
	} {
		got, e := mat.On(wide(x.a), spans(x.x), x.bits)
		areList(t, "On of "+x.a+" and "+x.x, got, e, spans(x.want), api.OK)
	}
	for _, x := range []struct {
		a, b string
		bits int
		want string
	}{
		{"1 2;3 4;", "-1..1 -1..1;0 5;", 20, "0..2 1..3;3 9;"}, {"20;1;", "1;1;", 3, "20..24;2;"}, {"", "", 20, ""}, {";;", ";;", 20, ";;"},
	} {
		got, e := mat.Plus(wide(x.a), wide(x.b), x.bits)
		are(t, "Plus of "+x.a+" and "+x.b, got, e, wide(x.want), api.OK)
	}
}

// wideColumn is a table's column.
func wideColumn(a [][]api.Span, j int) []api.Span {
	var list []api.Span
	for _, row := range a {
		list = append(list, row[j])
	}
	return list
}

func TestReckoningOfSpansOfAllShapes(t *testing.T) {
	for n := 1; n < 5; n++ {
		for m := 1; m < 6; m++ {
			for k := range maxDim + 2 {
				bits := 3 + k
				a, b, c := spread(n, m, 12), spread(m, k, 13), spread(n, m, 14)
				var products, sums [][]api.Span
				var on []api.Span
				for i, row := range a {
					products = append(products, nil)
					for j := range k {
						x, _ := vec.Inner(row, wideColumn(b, j), bits)
						products[i] = append(products[i], x)
					}
					x, _ := vec.Inner(row, c[0], bits)
					sum, _ := vec.Plus(row, c[i], bits)
					on, sums = append(on, x), append(sums, sum)
				}
				got, e := mat.Times(a, b, bits)
				are(t, "Times", got, e, products, api.OK)
				got, e = mat.Plus(a, c, bits)
				are(t, "Plus", got, e, sums, api.OK)
				list, e := mat.On(a, c[0], bits)
				areList(t, "On", list, e, on, api.OK)
			}
		}
	}
}

func TestTimesHoldsWhatIsTrue(t *testing.T) {
	for _, bits := range []int{2, 5, 53, 200} {
		a, b := mixed(4, 3, 15), mixed(3, 5, 16)
		exact, _ := mat.Mul(a, b)
		x, _ := mat.Near(a, bits)
		y, _ := mat.Near(b, bits)
		got, e := mat.Times(x, y, bits)
		if yes, f := mat.Holds(got, exact); !yes || e != api.OK || f != api.OK {
			t.Errorf("to %d bits: errors %d, %d", bits, e, f)
		}
	}
}

func TestSpansErrors(t *testing.T) {
	// Wrong bits are told of behind the shape.
	for _, x := range [][2]string{{"1 2;", "1 2;"}, {"1;", "1;2;"}, {"1 2;", ""}, {";", "1;"}, {"1 2;3;", "1;2;"}, {"1;2;", "1 2;3;"}, {"1 2;", "1;1 2;"}, {"", "1;1 2;"}, {"1;2 3;", "1;"}} {
		got, e := mat.Times(wide(x[0]), wide(x[1]), 1)
		are(t, "Times of "+x[0]+" and "+x[1], got, e, nil, api.ErrShape)
	}
	for _, x := range [][2]string{{"1 2;", "1"}, {"1 2;", "1 2 3"}, {"1;2;", ""}, {";", "1"}, {"1 2;3;", "1 2"}, {"1;2 3;", "1"}} {
		got, e := mat.On(wide(x[0]), spans(x[1]), 1)
		areList(t, "On of "+x[0]+" and "+x[1], got, e, nil, api.ErrShape)
	}
	for _, x := range [][2]string{{"1 2;", "1;2;"}, {"1 2;", "1 2;1 2;"}, {"1;", "1 2;"}, {"", ";"}, {";", "1;"}, {"1 2;3;", "1 2;3;"}, {"1 2;3 4;", "1 2;3;"}, {"1 2;3;", "1 2;3 4;"}} {
		got, e := mat.Plus(wide(x[0]), wide(x[1]), 1)
		are(t, "Plus of "+x[0]+" and "+x[1], got, e, nil, api.ErrShape)
	}
	for _, bits := range wrongBits() {
		a := wide("0 1;1 0;")
		got, e := mat.Times(a, a, bits)
		are(t, "Times to wrong bits", got, e, nil, api.ErrRange)
		got, e = mat.Plus(a, a, bits)
		are(t, "Plus to wrong bits", got, e, nil, api.ErrRange)
		list, e := mat.On(a, a[0], bits)
		areList(t, "On to wrong bits", list, e, nil, api.ErrRange)
	}
	for i := range 3 {
		for j := range 3 {
			a, b := with(spread(3, 3, 17), i, j, most()), with(spread(3, 3, 18), j, i, most())
			got, e := mat.Times(a, b, 53)
			are(t, "Times without room", got, e, nil, api.ErrLimbs)
			got, e = mat.Plus(a, b, 53)
			are(t, "Plus without room", got, e, nil, api.ErrLimbs)
			list, e := mat.On(a, []api.Span{most(), most(), most()}, 53)
			areList(t, "On without room", list, e, nil, api.ErrLimbs)
		}
	}
}

func TestEven(t *testing.T) {
	for _, n := range []int{math.MinInt, -1, 0, 1, 2, 15, 16, 17, math.MaxInt} {
		for _, x := range []api.Dyad{{}, at(1, 0), at(-5, -3), at(3, maxExp)} {
			got := mat.Even(n, x)
			if len(got) != held(n) {
				t.Fatalf("Even of %d: %d rows", n, len(got))
			}
			for _, row := range got {
				areList(t, "Even", row, api.OK, slices.Repeat([]api.Span{span.Even(x)}, held(n)), api.OK)
			}
		}
	}
}

func TestHolds(t *testing.T) {
	for _, x := range []struct {
		a, x  string
		want  bool
		wantE api.Errno
	}{
		{"", "", true, api.OK},
		{";;", ";;", true, api.OK},
		{"0..1 -3..3;5 -1..0;", "1/2 3;5 -1/3;", true, api.OK},
		{"0..1 -3..3;5 -1..0;", "3/2 3;5 -1/3;", false, api.OK},
		{"0..1 -3..3;5 -1..0;", "1/2 -4;5 -1/3;", false, api.OK},
		{"0..1 -3..3;5 -1..0;", "1/2 3;51/10 -1/3;", false, api.OK},
		{"0..1 -3..3;5 -1..0;", "1/2 3;5 1/3;", false, api.OK},
		{"0..1 -3..3;5 -1..0;", "-1 4;6 1;", false, api.OK},
		{"0..1;", "", false, api.ErrShape},
		{"", "0;", false, api.ErrShape},
		{"", ";", false, api.ErrShape},
		{"0..1;", "0;0;", false, api.ErrShape},
		{"0..1;0..1;", "0;", false, api.ErrShape},
		{"0..1;0..1;", "0 0;", false, api.ErrShape},
		{"0..1;0..1;", "0 0;0 0;", false, api.ErrShape},
		{"0..1 0..1;0..1;", "0 0;0;", false, api.ErrShape},
		{"0..1 0..1;0..1 0..1;", "0 0;0;", false, api.ErrShape},
		{"0..1 0..1;0..1;", "0 0;0 0;", false, api.ErrShape},
		{"0..1;0..1;", "7;0 0;", false, api.ErrShape}, // told of first, whatever the first row holds
	} {
		if got, e := mat.Holds(wide(x.a), table(x.x)); got != x.want || e != x.wantE {
			t.Errorf("%s holds %s: %t, error %d", x.a, x.x, got, e)
		}
	}
	far := api.Span{Lo: at(0, 0), Hi: at(1, maxExp)}
	for i := range 3 {
		for j := range 3 {
			if yes, e := mat.Holds(with(wide("0 0 0;0 0 0;0 0 0;"), i, j, far), mat.One(3)); yes || e != api.ErrLimbs {
				t.Errorf("without room at the place %d, %d: %t, error %d", i, j, yes, e)
			}
		}
	}
}

// P8.4

func TestSize(t *testing.T) {
	for _, x := range []struct {
		a    string
		bits int
		want int64
	}{
		{"", 20, 0}, {";", 20, 0}, {";;", 20, 0}, {"0;", 20, 0}, {"1..3;", 20, 3}, {"-4..3;", 20, 4},
		{"1 -5;2 2;", 20, 6}, {"-1..2 3..4;-9..1 0;", 20, 9}, {"1;7;3;", 20, 7}, {"1 2 3;0 0 0;", 20, 6}, {"-6..0;5;", 20, 6},
		{"5;", 2, 6},       // the first one is a sum too
		{"20;", 3, 20},     // what has no more bits isn't rounded
		{"4 1;", 2, 6},     // each sum is rounded upwards
		{"5 5 5;", 2, 24},  // all at once it would be 16
		{"20 1 1;", 3, 28}, // from the first place on
		{"1 1 20;", 3, 24}, // and not from the last one
		{"16 1;17 0;9 9;", 4, 18},
		{"-31..30;", 2, 32},
	} {
		got, e := mat.Size(wide(x.a), x.bits)
		size(t, "Size of "+x.a, got, e, at(x.want, 0), api.OK)
	}
	for _, bits := range []int{2, 3, 8, 53} {
		for n := 1; n < maxDim+2; n++ {
			a := mixed(n, n, uint64(n))
			near, _ := mat.Near(a, bits)
			norm, _ := mat.Norm(a)
			got, e := mat.Size(near, bits)
			if less, f := dyad.Cmp(got, norm); less < 0 || e != api.OK || f != api.OK {
				t.Errorf("Size of %d to %d bits is less than the norm, or errors %d, %d", n, bits, e, f)
			}
			if limbs.Bits(got.Man.Size) > bits {
				t.Errorf("Size of %d to %d bits has more", n, bits)
			}
		}
	}
}

func TestSizesErrors(t *testing.T) {
	for _, bits := range wrongBits() {
		got, e := mat.Size(wide("1;0;"), bits)
		size(t, "Size to wrong bits", got, e, api.Dyad{}, api.ErrRange)
		for _, rows := range ragged() {
			got, e := mat.Size(wide(rows), bits)
			size(t, "Size of "+rows, got, e, api.Dyad{}, api.ErrShape)
		}
	}
	for i := range 3 {
		got, e := mat.Size(with(wide("1 1;1 1;1 1;"), i, 1, most()), 53)
		size(t, "Size without room", got, e, api.Dyad{}, api.ErrLimbs)
		got, e = mat.Size(with(wide("1;1;1;"), i, 0, great(7, maxExp)), 2)
		size(t, "Size rounded beyond the bounds", got, e, api.Dyad{}, api.ErrRange)
	}
	// No more room is asked for than sums need.
	got, e := mat.Size([][]api.Span{{great(-3, maxExp)}, {of(1, 1)}}, 53)
	size(t, "Size of a great number", got, e, at(3, maxExp), api.OK)
	got, e = mat.Size([][]api.Span{{great(-3, 40000), great(5, 40000)}}, 53)
	size(t, "Size of great numbers", got, e, at(1, 40003), api.OK)
	got, e = mat.Size([][]api.Span{{great(-3, 40000), great(5, 0)}}, 53)
	size(t, "Size of numbers far apart", got, e, api.Dyad{}, api.ErrLimbs)
}

// P1

// wrongSpans is what can't be spans.
func wrongSpans() []api.Span {
	var ends []api.Dyad
	for _, size := range []api.Nat{nil, {0}, {1, 0}, {6}, slices.Repeat(api.Nat{3}, 600), slices.Repeat(api.Nat{0}, 2000)} {
		for _, exp := range []int{0, maxExp + 1, math.MaxInt, math.MinInt} {
			ends = append(ends, api.Dyad{Man: api.Int{Minus: exp < 0, Size: size}, Exp: exp})
		}
	}
	var list []api.Span
	for i, lo := range ends {
		list = append(list, api.Span{Lo: lo, Hi: ends[(i*7+3)%len(ends)]})
	}
	return append(list, of(3, -3))
}

func TestNoCallOfSpansPanics(t *testing.T) {
	tables := [][][]api.Span{nil, {nil}, {nil, {}}, wide("1 2;3 4..5;"), wide("1 2;"), wide("1;2;"), {wrongSpans(), nil}, {{great(1, maxExp), great(1, -maxExp)}}}
	for _, rows := range ragged() {
		tables = append(tables, wide(rows))
	}
	for i, x := range wrongSpans() {
		tables = append(tables, [][]api.Span{{x}}, [][]api.Span{{x, wrongSpans()[i*3%25]}, {of(1, 2), x}})
	}
	for _, a := range tables {
		mat.Holds(a, [][]api.Rat{{ratio.Of(1, 3)}})
		mat.Holds(a, [][]api.Rat{wrong()[:2], wrong()[2:4]})
		mat.Holds(a, nil)
		for _, bits := range []int{math.MinInt, 1, 2, maxBits, math.MaxInt} {
			mat.Size(a, bits)
			for _, b := range tables {
				mat.Times(a, b, bits)
				mat.Plus(a, b, bits)
				if len(b) > 0 {
					mat.On(a, b[0], bits)
				}
			}
		}
	}
	for _, x := range wrongSpans() {
		mat.Even(3, x.Lo)
	}
}
