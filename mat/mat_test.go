package mat_test

import (
	"math"
	"slices"
	"strings"
	"testing"

	"girdle/api"
	"girdle/limbs"
	"girdle/mat"
	"girdle/ratio"
	"girdle/vec"
	"girdle/whole"
)

// The bounds as the document tells them.
const (
	limbBits = 32 * 512
	maxDim   = 16
)

// rats is a list of a text: ratios with blanks between.
func rats(text string) []api.Rat {
	list := []api.Rat{}
	for _, word := range strings.Fields(text) {
		x, e := ratio.Parse(word)
		if e != api.OK {
			panic("a test's ratio is wrong")
		}
		list = append(list, x)
	}
	return list
}

// table is a table of a text: rows with ; behind each.
func table(text string) [][]api.Rat {
	rows := [][]api.Rat{}
	for text != "" {
		var row string
		row, text, _ = strings.Cut(text, ";")
		rows = append(rows, rats(row))
	}
	return rows
}

// listText is a list's ratios with blanks between.
func listText(list []api.Rat) string {
	var words []string
	for _, x := range list {
		words = append(words, ratio.Text(x))
	}
	return strings.Join(words, " ")
}

// text is a table's rows with ; behind each.
func text(rows [][]api.Rat) string {
	var out strings.Builder
	for _, row := range rows {
		out.WriteString(listText(row) + ";")
	}
	return out.String()
}

// power is 2 to the power of n; below 0 that of one of its size.
func power(n int) api.Rat {
	size, e := limbs.Left(limbs.Of(1), max(n, -n))
	if e != api.OK {
		panic("a test's number is beyond the bounds")
	}
	if n < 0 {
		return api.Rat{Num: whole.Of(1), Den: size}
	}
	return ratio.Whole(whole.Nat(size))
}

// mixed is a table of so many rows and columns that looks like no other, the same in every run.
func mixed(rows, cols int, seed uint64) [][]api.Rat {
	list := make([][]api.Rat, rows)
	for i := range list {
		list[i] = make([]api.Rat, cols)
		for j := range list[i] {
			seed = seed*6364136223846793005 + 1442695040888963407
			list[i][j] = ratio.Of(int64(seed>>40)-1<<23, int64(seed>>20&255)+1)
		}
	}
	return list
}

// changed is a table with another ratio at one place.
func changed(rows [][]api.Rat, i, j int, x api.Rat) [][]api.Rat {
	rows = slices.Clone(rows)
	rows[i] = slices.Clone(rows[i])
	rows[i][j] = x
	return rows
}

// is tells whether a call's answer is that table, of ratios each in its form; with an error there is to be none.
func is(t *testing.T, what string, got [][]api.Rat, e api.Errno, want string, wantE api.Errno) {
	t.Helper()
	if e != wantE {
		t.Fatalf("%s: error %d, not %d", what, e, wantE)
	}
	if len(got) > 0 && e != api.OK {
		t.Fatalf("%s: rows beside error %d", what, e)
	}
	if text(got) != want {
		t.Fatalf("%s: %.200s, not %.200s", what, text(got), want)
	}
	for _, x := range slices.Concat(got...) {
		if f := ratio.Check(x); f != api.OK {
			t.Fatalf("%s: a ratio that can't be: error %d", what, f)
		}
	}
}

// isList tells that of a list.
func isList(t *testing.T, what string, got []api.Rat, e api.Errno, want string, wantE api.Errno) {
	t.Helper()
	if len(got) > 0 && e != api.OK {
		t.Fatalf("%s: ratios beside error %d", what, e)
	}
	if e == api.OK {
		want += ";"
		is(t, what, [][]api.Rat{got}, e, want, wantE)
	} else {
		is(t, what, nil, e, want, wantE)
	}
}

// number tells whether a call's answer is that ratio; with an error it is to be 0.
func number(t *testing.T, what string, got api.Rat, e api.Errno, want string, wantE api.Errno) {
	t.Helper()
	if e != wantE {
		t.Fatalf("%s: error %d, not %d", what, e, wantE)
	}
	if e != api.OK {
		want = "0"
	}
	if ratio.Text(got) != want || ratio.Check(got) != api.OK {
		t.Fatalf("%s: %.80s, not %.80s", what, ratio.Text(got), want)
	}
}

// ragged is tables of rows of unlike lengths.
func ragged() []string {
	return []string{"1 2;3;", "1;2 3;", ";1;", "1;;", "1 2;3 4;5;", "1 2;3 4;5 6 7;", "1 2;3 4 5;6 7;", "1;;1;"}
}

// wrong is what can't be ratios.
func wrong() []api.Rat {
	var list []api.Rat
	for _, num := range []api.Int{{}, {Minus: true}, {Minus: true, Size: api.Nat{6, 0}}, {Size: slices.Repeat(api.Nat{3}, 600)}} {
		for _, den := range []api.Nat{nil, {0}, {9}, slices.Repeat(api.Nat{5}, 513), slices.Repeat(api.Nat{0}, 2000)} {
			list = append(list, api.Rat{Num: num, Den: den})
		}
	}
	return list
}

// P8.1

// held is how many things are made, if so many are asked for.
func held(n int) int { return min(max(n, 0), maxDim) }

func TestZeroAndOne(t *testing.T) {
	sizes := []int{math.MinInt, -17, -1, 0, 1, 2, 3, 7, 15, 16, 17, 1000, math.MaxInt}
	for _, n := range sizes {
		for _, m := range sizes {
			row := strings.TrimSpace(strings.Repeat("0 ", held(m))) + ";"
			is(t, "Zero", mat.Zero(n, m), api.OK, strings.Repeat(row, held(n)), api.OK)
		}
		want := ""
		for i := range held(n) {
			words := slices.Repeat([]string{"0"}, held(n))
			words[i] = "1"
			want += strings.Join(words, " ") + ";"
		}
		is(t, "One", mat.One(n), api.OK, want, api.OK)
	}
	is(t, "One", mat.One(2), api.OK, "1 0;0 1;", api.OK)
	is(t, "Zero", mat.Zero(2, 3), api.OK, "0 0 0;0 0 0;", api.OK)
}

func TestCheck(t *testing.T) {
	for n := range maxDim + 2 {
		for m := range maxDim + 2 {
			a := mixed(n, m, 1)
			for rows := -1; rows < maxDim+3; rows++ {
				for cols := -1; cols < maxDim+3; cols++ {
					want := api.OK
					if rows != n || n > maxDim || n > 0 && (cols != m || m > maxDim) {
						want = api.ErrShape
					}
					if e := mat.Check(a, rows, cols); e != want {
						t.Fatalf("%d times %d, not %d times %d: error %d", n, m, rows, cols, e)
					}
				}
			}
		}
	}
	for _, n := range []int{math.MinInt, math.MaxInt} {
		if mat.Check(nil, n, 0) != api.ErrShape || mat.Check(mixed(1, 1, 1), n, 1) != api.ErrShape || mat.Check(mixed(1, 1, 1), 1, n) != api.ErrShape {
			t.Errorf("%d rows or columns", n)
		}
	}
	for _, rows := range ragged() {
		a := table(rows)
		for cols := range 4 {
			if e := mat.Check(a, len(a), cols); e != api.ErrShape {
				t.Errorf("%s: error %d", rows, e)
			}
		}
	}
}

func TestCheckOfNumbers(t *testing.T) {
	halves := api.Rat{Num: whole.Of(2), Den: api.Nat{4}}
	long := api.Rat{Num: whole.Of(1), Den: slices.Repeat(api.Nat{3}, 513)}
	for _, x := range append(wrong(), halves, long) {
		for i := range 3 {
			for j := range 4 {
				if e := mat.Check(changed(mixed(3, 4, 2), i, j, x), 3, 4); e != ratio.Check(x) || e == api.OK {
					t.Errorf("at the place %d, %d: error %d, not %d", i, j, e, ratio.Check(x))
				}
			}
		}
		if e := mat.Check([][]api.Rat{{x}, {x}}, 1, 1); e != api.ErrShape {
			t.Errorf("how many rows there are is told of first, not error %d", e)
		}
	}
	// The first row's error is told of, whatever it is.
	for _, x := range []struct {
		a    [][]api.Rat
		want api.Errno
	}{
		{[][]api.Rat{{halves}, {long}}, api.ErrForm},
		{[][]api.Rat{{long}, {halves}}, api.ErrLimbs},
		{[][]api.Rat{{halves}, {}}, api.ErrForm},
		{[][]api.Rat{{}, {halves}}, api.ErrShape},
	} {
		if e := mat.Check(x.a, 2, 1); e != x.want {
			t.Errorf("error %d, not %d", e, x.want)
		}
	}
}

// P8.2

func TestTurn(t *testing.T) {
	for a, want := range map[string]string{"": "", ";": "", ";;;": "", "5;": "5;", "1 2 3;": "1;2;3;", "1;2;3;": "1 2 3;", "1 -2 3;4 5 1/6;": "1 4;-2 5;3 1/6;"} {
		got, e := mat.Turn(table(a))
		is(t, "Turn of "+a, got, e, want, api.OK)
	}
	for n := 1; n < maxDim+2; n++ {
		for m := 1; m < maxDim+2; m++ {
			a := mixed(n, m, 3)
			got, e := mat.Turn(a)
			if e != api.OK || len(got) != m {
				t.Fatalf("Turn of %d times %d: %d rows, error %d", n, m, len(got), e)
			}
			for j, row := range got {
				for i, x := range row {
					if len(row) != n || ratio.Text(x) != ratio.Text(a[i][j]) {
						t.Fatalf("Turn of %d times %d, at the place %d, %d", n, m, j, i)
					}
				}
			}
		}
	}
	for _, a := range ragged() {
		got, e := mat.Turn(table(a))
		is(t, "Turn of "+a, got, e, "", api.ErrShape)
	}
}

func TestReckoning(t *testing.T) {
	for _, x := range []struct{ a, b, want string }{
		{"0 1;-1 0;", "0 1;-1 0;", "-1 0;0 -1;"},
		{"1 2;3 4;", "0 1;1 0;", "2 1;4 3;"},
		{"0 1;1 0;", "1 2;3 4;", "3 4;1 2;"},
		{"1 2 3;", "4;5;6;", "32;"},
		{"4;5;6;", "1 2 3;", "4 8 12;5 10 15;6 12 18;"},
		{"1/2 1/3;", "2 0 1;3 6 -1;", "2 2 1/6;"},
		{"1 2;3 4;5 6;", "1;1/2;", "2;5;8;"},
		{"", "", ""},
		{"", "1 2;3 4;", ""}, // no row that doesn't fit
		{";;", "", ";;"},
		{"1 2;3 4;", ";;", ";;"},
	} {
		got, e := mat.Mul(table(x.a), table(x.b))
		is(t, "Mul of "+x.a+" and "+x.b, got, e, x.want, api.OK)
	}
	for _, x := range []struct{ a, x, want string }{
		{"1 2;3 4;", "1 -1", "-1 -1"}, {"1 2 3;", "1/2 0 1/3", "3/2"}, {"1;2;3;", "-1/2", "-1/2 -1 -3/2"}, {";;", "", "0 0"}, {"", "", ""}, {"", "1 2", ""},
	} {
		got, e := mat.Apply(table(x.a), rats(x.x))
		isList(t, "Apply of "+x.a+" to "+x.x, got, e, x.want, api.OK)
	}
	got, e := mat.Add(table("1 2;3 -4;"), table("1/2 0;-3 1/4;"))
	is(t, "Add", got, e, "3/2 2;0 -15/4;", api.OK)
	got, e = mat.Scale(table("1 2;3 -4;"), ratio.Of(-1, 2))
	is(t, "Scale", got, e, "-1/2 -1;-3/2 2;", api.OK)
	for _, a := range []string{"", ";", ";;"} {
		got, e = mat.Add(table(a), table(a))
		is(t, "Add of none", got, e, a, api.OK)
		got, e = mat.Scale(table(a), ratio.Of(2, 1))
		is(t, "Scale of none", got, e, a, api.OK)
	}
}

// column is a table's column.
func column(a [][]api.Rat, j int) []api.Rat {
	var list []api.Rat
	for _, row := range a {
		list = append(list, row[j])
	}
	return list
}

func TestReckoningOfAllShapes(t *testing.T) {
	for n := range 5 {
		for m := 1; m < 6; m++ {
			for k := range maxDim + 2 {
				a, b, c, by := mixed(n, m, 4), mixed(m, k, 5), mixed(n, m, 6), ratio.Of(-5, 6)
				var products, sums, times [][]api.Rat
				var on []api.Rat
				for i, row := range a {
					products = append(products, nil)
					for j := range k {
						x, _ := vec.Dot(row, column(b, j))
						products[i] = append(products[i], x)
					}
					x, _ := vec.Dot(row, c[0])
					sum, _ := vec.Add(row, c[i])
					more, _ := vec.Scale(row, by)
					on, sums, times = append(on, x), append(sums, sum), append(times, more)
				}
				got, e := mat.Mul(a, b)
				is(t, "Mul", got, e, text(products), api.OK)
				got, e = mat.Add(a, c)
				is(t, "Add", got, e, text(sums), api.OK)
				got, e = mat.Scale(a, by)
				is(t, "Scale", got, e, text(times), api.OK)
				if n > 0 {
					got, e := mat.Apply(a, c[0])
					isList(t, "Apply", got, e, listText(on), api.OK)
				}
			}
		}
	}
}

func TestTablesThatDoNotFit(t *testing.T) {
	for _, x := range [][2]string{{"1 2;", "1 2;"}, {"1;", "1;2;"}, {"1;2;", "1;2;"}, {"1 2;3 4;", "1 2 3;"}, {"1 2;", ""}, {";", "1;"}, {";;", ";;"}, {"1 2;3 4;", "1;2;3;"}} {
		got, e := mat.Mul(table(x[0]), table(x[1]))
		is(t, "Mul of "+x[0]+" and "+x[1], got, e, "", api.ErrShape)
	}
	for _, x := range [][2]string{{"1 2;", "1"}, {"1 2;", "1 2 3"}, {"1;2;", ""}, {";", "1"}, {"1 2;3 4;", "1 2 3 4"}} {
		got, e := mat.Apply(table(x[0]), rats(x[1]))
		isList(t, "Apply of "+x[0]+" to "+x[1], got, e, "", api.ErrShape)
	}
	for _, x := range [][2]string{{"1 2;", "1;2;"}, {"1 2;", "1 2;1 2;"}, {"1 2;1 2;", "1 2;"}, {"1 2;", "1;"}, {"1;", "1 2;"}, {"", ";"}, {";", ""}, {";;", ";"}, {"1;", ";"}, {";", "1;"}} {
		got, e := mat.Add(table(x[0]), table(x[1]))
		is(t, "Add of "+x[0]+" and "+x[1], got, e, "", api.ErrShape)
	}
}

func TestRowsOfUnlikeLengths(t *testing.T) {
	// What has no room is told of behind the shape.
	great := power(limbBits - 1)
	for _, rows := range ragged() {
		a := table(rows)
		for i, row := range a {
			for j := range row {
				a[i][j] = great
			}
		}
		for _, other := range []string{"", ";", "1;", "1 1;", "1;1;", "1 1;1 1;", "1;1;1;", "1 1;1 1;1 1;", "1 1 1;1 1 1;1 1 1;"} {
			b := table(other)
			for _, x := range b {
				for j := range x {
					x[j] = great
				}
				list, e := mat.Apply(a, x)
				isList(t, "Apply", list, e, "", api.ErrShape)
			}
			for _, two := range [][2][][]api.Rat{{a, b}, {b, a}} {
				got, e := mat.Mul(two[0], two[1])
				is(t, "Mul of "+rows+" and "+other, got, e, "", api.ErrShape)
				got, e = mat.Add(two[0], two[1])
				is(t, "Add of "+rows+" and "+other, got, e, "", api.ErrShape)
			}
		}
		got, e := mat.Add(a, a)
		is(t, "Add of "+rows+" twice", got, e, "", api.ErrShape)
		got, e = mat.Mul(a, a)
		is(t, "Mul of "+rows+" twice", got, e, "", api.ErrShape)
		got, e = mat.Scale(a, great)
		is(t, "Scale of "+rows, got, e, "", api.ErrShape)
		x, e := mat.Norm(a)
		number(t, "Norm of "+rows, x, e, "", api.ErrShape)
	}
}

func TestNoRoom(t *testing.T) {
	great := power(limbBits - 1)
	for i := range 3 {
		for j := range 3 {
			a := changed(mixed(3, 3, 7), i, j, great)
			twice := changed(mixed(3, 3, 8), j, i, ratio.Of(2, 1))
			got, e := mat.Mul(a, twice)
			is(t, "Mul", got, e, "", api.ErrLimbs)
			got, e = mat.Mul(twice, a)
			is(t, "Mul", got, e, "", api.ErrLimbs)
			list, e := mat.Apply(a, rats("2 2 2"))
			isList(t, "Apply", list, e, "", api.ErrLimbs)
			got, e = mat.Add(a, a)
			is(t, "Add", got, e, "", api.ErrLimbs)
			got, e = mat.Scale(a, ratio.Of(2, 1))
			is(t, "Scale", got, e, "", api.ErrLimbs)
		}
	}
}

// P8.4

func TestNorm(t *testing.T) {
	for a, want := range map[string]string{
		"": "0", ";": "0", ";;": "0", "0;": "0", "-5;": "5", "1 -5;2 2;": "6", "1 -2 3;": "6", "-1/2 1/3;0 5/6;": "5/6", "1;-7;3;": "7", "1;2;3;": "3", "3;2;-1;": "3", "-1 -1;1/2 1;": "2", "1 1;-1 -1;": "2",
	} {
		got, e := mat.Norm(table(a))
		number(t, "Norm of "+a, got, e, want, api.OK)
	}
	for n := 1; n < maxDim+2; n++ {
		a, want := mixed(n, n+1, 9), ratio.Zero()
		for _, row := range a {
			sum := ratio.Zero()
			for _, x := range row {
				sum, _ = ratio.Add(sum, ratio.Abs(x))
			}
			if more, _ := ratio.Compare(sum, want); more > 0 {
				want = sum
			}
		}
		got, e := mat.Norm(a)
		number(t, "Norm", got, e, ratio.Text(want), api.OK)
	}
}

func TestNormsErrors(t *testing.T) {
	great, small := power(limbBits-1), power(1-limbBits)
	for i := range 3 {
		a := changed(changed(mixed(3, 2, 10), i, 0, great), i, 1, ratio.Neg(great))
		got, e := mat.Norm(a)
		number(t, "Norm, a sum without room", got, e, "", api.ErrLimbs)
	}
	got, e := mat.Norm([][]api.Rat{{great}, {small}})
	number(t, "Norm, sums that can't be held against each other", got, e, "", api.ErrLimbs)
	got, e = mat.Norm([][]api.Rat{{great, ratio.Zero()}, rats("1 2")})
	number(t, "Norm of a great number", got, e, ratio.Text(great), api.OK)
	got, e = mat.Norm([][]api.Rat{{ratio.Neg(small)}})
	number(t, "Norm of a small number", got, e, ratio.Text(small), api.OK)
}

// P1

func TestNoCallPanics(t *testing.T) {
	tables := [][][]api.Rat{nil, {}, {nil}, {nil, {}}, table("1 2;3 4;"), table("1 2 3;"), {{power(limbBits - 1), power(1 - limbBits)}}, slices.Repeat(table("1/3 2;"), 40), {wrong(), nil}, {wrong(), wrong()}}
	for _, rows := range ragged() {
		tables = append(tables, table(rows))
	}
	for i, x := range wrong() {
		tables = append(tables, [][]api.Rat{{x}}, [][]api.Rat{{x, wrong()[i*7%20]}, {wrong()[i*3%20], ratio.Of(1, 3)}})
	}
	for _, a := range tables {
		mat.Turn(a)
		mat.Norm(a)
		for _, n := range []int{math.MinInt, -1, 0, 1, 2, 53, math.MaxInt} {
			mat.Check(a, n, len(a))
			mat.Check(a, len(a), n)
			mat.Near(a, n)
		}
		for _, x := range append(wrong(), ratio.Of(-2, 7)) {
			mat.Scale(a, x)
			mat.Apply(a, []api.Rat{x, x})
			mat.Apply(a, []api.Rat{x})
		}
		mat.Apply(a, nil)
		for _, b := range tables {
			mat.Mul(a, b)
			mat.Add(a, b)
		}
	}
}
