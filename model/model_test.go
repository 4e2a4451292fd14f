package model_test

import (
	"math"
	"math/big"
	"slices"
	"strings"
	"testing"

	"girdle/api"
	"girdle/mat"
	"girdle/model"
	"girdle/ratio"
	"girdle/vec"
	"girdle/whole"
)

// The bounds as the document tells them.
const (
	limbBits  = 32 * 512
	maxDim    = 16
	maxGens   = 32
	maxClaims = 32
	maxSteps  = 4096
)

// rat is the ratio of a text.
func rat(text string) api.Rat {
	x, e := ratio.Parse(text)
	if e != api.OK {
		panic("a test's ratio is wrong")
	}
	return x
}

// rats is a list of a text: ratios with blanks between.
func rats(text string) []api.Rat {
	list := []api.Rat{}
	for _, word := range strings.Fields(text) {
		list = append(list, rat(word))
	}
	return list
}

// text is a list's ratios with blanks between.
func text(list []api.Rat) string {
	var words []string
	for _, x := range list {
		words = append(words, ratio.Text(x))
	}
	return strings.Join(words, " ")
}

// ofBig is the library's ratio, of any size, as api has it.
func ofBig(x *big.Rat) api.Rat {
	return api.Rat{Num: api.Int{Minus: x.Sign() < 0, Size: natOf(x.Num())}, Den: natOf(x.Denom())}
}

// natOf is the size of the library's number.
func natOf(n *big.Int) api.Nat {
	var a api.Nat
	left, mask := new(big.Int).Abs(n), big.NewInt(math.MaxUint32)
	for left.Sign() > 0 {
		a = append(a, uint32(new(big.Int).And(left, mask).Uint64()))
		left.Rsh(left, 32)
	}
	return a
}

// toBig is a ratio as the library has it.
func toBig(a api.Rat) *big.Rat {
	x, ok := new(big.Rat).SetString(ratio.Text(a))
	if !ok {
		panic("a ratio's text is wrong")
	}
	return x
}

// power is 2 to the power of n, and so much more.
func power(n uint, more int64) *big.Int {
	x := new(big.Int).Lsh(big.NewInt(1), n)
	return x.Add(x, big.NewInt(more))
}

// mixer makes ratios that look like no others, the same in every run.
type mixer struct{ seed uint64 }

// list is so many of them.
func (m *mixer) list(n int) []api.Rat {
	list := make([]api.Rat, n)
	for i := range list {
		m.seed = m.seed*6364136223846793005 + 1442695040888963407
		list[i] = ratio.Of(int64(m.seed>>40)-1<<23, int64(m.seed>>20&255)+1)
	}
	return list
}

// table is so many lists of so many.
func (m *mixer) table(rows, cols int) [][]api.Rat {
	table := make([][]api.Rat, rows)
	for i := range table {
		table[i] = m.list(cols)
	}
	return table
}

// sized is a model that may be, of so many states, inputs, ways of each set, and claims.
func sized(dim, inputs, ways, claims int) model.Model {
	m := mixer{uint64(dim*100 + inputs)}
	made := model.Model{
		Dim: dim, Inputs: inputs,
		A: m.table(dim, dim), B: m.table(dim, inputs), C: m.list(dim),
		Start:   model.Zono{Center: m.list(dim), Gens: m.table(ways, dim)},
		Input:   model.Zono{Center: m.list(inputs), Gens: m.table(ways, inputs)},
		Horizon: rat("7/3"), Step: rat("1/5"),
	}
	for i := range claims {
		from := ratio.Of(int64(i), int64(claims+1))
		made.Claims = append(made.Claims, model.Claim{Never: i%2 == 1, Dir: m.list(dim), Bound: m.list(1)[0], From: from, To: rat("2")})
	}
	return made
}

// common is a model of two states.
func common() model.Model { return sized(2, 1, 3, 2) }

// numbers is where all numbers of a model stand.
func numbers(m *model.Model) []*api.Rat {
	list := []*api.Rat{&m.Horizon, &m.Step}
	for _, row := range slices.Concat(m.A, m.B, [][]api.Rat{m.C}, [][]api.Rat{m.Start.Center, m.Input.Center}, m.Start.Gens, m.Input.Gens) {
		for i := range row {
			list = append(list, &row[i])
		}
	}
	for i := range m.Claims {
		c := &m.Claims[i]
		list = append(list, &c.Bound, &c.From, &c.To)
		for j := range c.Dir {
			list = append(list, &c.Dir[j])
		}
	}
	return list
}

// lists is where all lists of numbers of a model stand.
func lists(m *model.Model) []*[]api.Rat {
	list := []*[]api.Rat{&m.C, &m.Start.Center, &m.Input.Center}
	for _, table := range tables(m) {
		for i := range *table {
			list = append(list, &(*table)[i])
		}
	}
	for i := range m.Claims {
		list = append(list, &m.Claims[i].Dir)
	}
	return list
}

// tables is where all tables and ways of a model stand.
func tables(m *model.Model) []*[][]api.Rat {
	return []*[][]api.Rat{&m.A, &m.B, &m.Start.Gens, &m.Input.Gens}
}

// wrong is what can't be ratios.
func wrong() []api.Rat {
	list := []api.Rat{{}, {Num: whole.Of(2), Den: api.Nat{4}}, {Num: whole.Of(-1), Den: slices.Repeat(api.Nat{3}, 513)}}
	for _, num := range []api.Int{{Minus: true}, {Size: api.Nat{0}}, {Minus: true, Size: api.Nat{6, 0}}, {Size: slices.Repeat(api.Nat{3}, 600)}} {
		for _, den := range []api.Nat{nil, {0}, {1}, {9}, slices.Repeat(api.Nat{0}, 2000)} {
			list = append(list, api.Rat{Num: num, Den: den})
		}
	}
	return list
}

// checks tells whether Check has that error of a model.
func checks(t *testing.T, what string, m model.Model, want api.Errno) {
	t.Helper()
	if e := model.Check(m); e != want {
		t.Errorf("%s: error %d, not %d", what, e, want)
	}
}

// P10.1

func TestCheckOfAllSizes(t *testing.T) {
	if model.MaxGens != maxGens || model.MaxClaims != maxClaims || model.MaxSteps != maxSteps {
		t.Errorf("MaxGens %d, MaxClaims %d, MaxSteps %d", model.MaxGens, model.MaxClaims, model.MaxSteps)
	}
	for dim := range maxDim + 3 {
		for inputs := range maxDim + 3 {
			want := api.OK
			if dim < 1 || dim > maxDim || inputs > maxDim {
				want = api.ErrShape
			}
			for _, ways := range []int{0, 1, maxGens} {
				checks(t, "a size", sized(dim, inputs, ways, ways%5), want)
			}
		}
	}
	checks(t, "the zero model", model.Model{}, api.ErrShape)
}

func TestCheckOfCounts(t *testing.T) {
	for ways := maxGens - 1; ways < maxGens+3; ways++ {
		want := api.OK
		if ways > maxGens {
			want = api.ErrLong
		}
		m := common()
		m.Start.Gens = mat.Zero(0, 0)
		for range ways {
			m.Start.Gens = append(m.Start.Gens, vec.Zero(2))
		}
		checks(t, "ways of the start", m, want)
		m = common()
		m.Input.Gens = nil
		for range ways {
			m.Input.Gens = append(m.Input.Gens, vec.Unit(1, 0))
		}
		checks(t, "ways of the input", m, want)
		checks(t, "claims", sized(2, 1, 0, ways), want)
	}
	checks(t, "all there can be", sized(maxDim, maxDim, maxGens, maxClaims), api.OK)
}

func TestCheckOfShapes(t *testing.T) {
	for _, n := range []int{math.MinInt, -1, 0, 1, 3, maxDim, maxDim + 1, math.MaxInt} {
		m := common()
		m.Dim = n
		checks(t, "another Dim", m, api.ErrShape)
		if m = common(); n != 1 {
			m.Inputs = n
			checks(t, "other Inputs", m, api.ErrShape)
		}
	}
	one := common()
	for i := range lists(&one) {
		for _, change := range []func(list []api.Rat) []api.Rat{
			func(list []api.Rat) []api.Rat { return list[1:] },
			func(list []api.Rat) []api.Rat { return append(slices.Clone(list), ratio.Zero()) },
			func(list []api.Rat) []api.Rat { return slices.Repeat(list, 20) },
			func(list []api.Rat) []api.Rat { return nil },
		} {
			m := common()
			list := lists(&m)[i]
			*list = change(*list)
			checks(t, "a list of another length", m, api.ErrShape)
		}
	}
	for i := range 2 {
		for _, change := range []func(rows [][]api.Rat) [][]api.Rat{
			func(rows [][]api.Rat) [][]api.Rat { return rows[1:] },
			func(rows [][]api.Rat) [][]api.Rat { return append(slices.Clone(rows), rows[0]) },
			func(rows [][]api.Rat) [][]api.Rat { return nil },
		} {
			m := common()
			rows := tables(&m)[i]
			*rows = change(*rows)
			checks(t, "a table of other rows", m, api.ErrShape)
		}
	}
}

func TestCheckOfNumbers(t *testing.T) {
	one := common()
	for i := range numbers(&one) {
		for _, x := range wrong() {
			m := common()
			*numbers(&m)[i] = x
			if ratio.Check(x) == api.OK {
				t.Fatal("a test's ratio may be")
			}
			checks(t, "a number that can't be", m, ratio.Check(x))
		}
	}
}

func TestCheckOfHorizonAndStep(t *testing.T) {
	for text, want := range map[string]api.Errno{"0": api.ErrHorizon, "-1": api.ErrHorizon, "-1/1000000000000000000000": api.ErrHorizon, "7/3": api.OK, "2": api.OK, "819": api.OK} {
		m := sized(2, 1, 0, 0)
		m.Horizon = rat(text)
		checks(t, "the horizon "+text, m, want)
		m = sized(2, 1, 0, 0)
		m.Step = rat(text)
		checks(t, "the step "+text, m, want)
	}
	m := sized(1, 0, 0, 0)
	m.Horizon, m.Step = rat("-1"), rat("-1")
	checks(t, "both below 0", m, api.ErrHorizon)
	m.Horizon, m.Step = rat("4096/7"), rat("1/7")
	checks(t, "as many steps as there can be", m, api.OK)
	m.Horizon = rat("4096.0000000000001")
	m.Step = rat("1")
	checks(t, "one step more", m, api.ErrSteps)
}

func TestCheckOfClaimsTimes(t *testing.T) {
	for times, want := range map[string]api.Errno{
		"0 0": api.OK, "0 7/3": api.OK, "7/3 7/3": api.OK, "1 1": api.OK, "1/2 2/3": api.OK,
		"-1 1": api.ErrHorizon, "-1/1000000000000 1": api.ErrHorizon, "-2 -1": api.ErrHorizon, "0 -1": api.ErrHorizon, "1 -2": api.ErrHorizon, "-1 -1": api.ErrHorizon,
		"1 1/2": api.ErrHorizon, "2/3 1/2": api.ErrHorizon, "1 0": api.ErrHorizon, "1.0000000000001 1": api.ErrHorizon,
		"0 5/2": api.ErrHorizon, "0 2.3333333333333334": api.ErrHorizon, "7/3 8/3": api.ErrHorizon, "3 3": api.ErrHorizon, "3 2": api.ErrHorizon, "0 1000000000000000000000000": api.ErrHorizon,
	} {
		for i := range 3 {
			m := sized(2, 1, 1, 3)
			list := rats(times)
			m.Claims[i].From, m.Claims[i].To = list[0], list[1]
			checks(t, "the times "+times, m, want)
		}
	}
}

// TestCheckOfGreatTimes holds times against each other that layer 4 has no room to compare.
func TestCheckOfGreatTimes(t *testing.T) {
	below, next := power(limbBits-2, 1), power(limbBits-2, 3)
	fractions := []*big.Rat{new(big.Rat), big.NewRat(1, 2), big.NewRat(1, 1), new(big.Rat).SetFrac(below, next), new(big.Rat).SetFrac(power(limbBits-2, -1), below), new(big.Rat).SetFrac(next, below), new(big.Rat).SetInt(next), new(big.Rat).SetFrac(big.NewInt(1), next), new(big.Rat).SetFrac(power(limbBits, -1), power(limbBits-1, 7))}
	if _, e := ratio.Compare(ofBig(fractions[3]), ofBig(fractions[4])); e != api.ErrLimbs {
		t.Fatal("these can be compared")
	}
	for _, horizon := range fractions[1:] {
		for _, from := range fractions {
			for _, to := range fractions {
				m := sized(1, 0, 0, 1)
				m.Horizon, m.Step = ofBig(horizon), ofBig(horizon)
				m.Claims[0].From, m.Claims[0].To = ofBig(from), ofBig(to)
				want := api.OK
				if from.Cmp(to) > 0 || to.Cmp(horizon) > 0 {
					want = api.ErrHorizon
				}
				checks(t, "great times", m, want)
			}
		}
	}
}

// P10.2

// steps tells whether a model of such a horizon and step has so many steps as the library finds.
func steps(t *testing.T, horizon, step *big.Rat) {
	t.Helper()
	often := new(big.Rat).Quo(horizon, step)
	up := new(big.Int).Add(often.Num(), new(big.Int).Sub(often.Denom(), big.NewInt(1)))
	want, wantE := up.Quo(up, often.Denom()), api.OK
	if want.Cmp(big.NewInt(maxSteps)) > 0 {
		want, wantE = new(big.Int), api.ErrSteps
	}
	m := sized(1, 0, 0, 0)
	m.Horizon, m.Step = ofBig(horizon), ofBig(step)
	if got, e := model.Steps(m); int64(got) != want.Int64() || e != wantE {
		t.Errorf("%.40s by %.40s: %d, error %d, not %d, %d", horizon, step, got, e, want, wantE)
	}
	checks(t, "steps", m, wantE)
}

func TestSteps(t *testing.T) {
	for above := int64(1); above < 30; above++ {
		for below := int64(1); below < 12; below++ {
			for _, step := range []*big.Rat{big.NewRat(1, 1), big.NewRat(1, 7), big.NewRat(2, 5), big.NewRat(1, 137), big.NewRat(1, 150), big.NewRat(100, 3), big.NewRat(1, 1<<40)} {
				steps(t, big.NewRat(above, below), step)
			}
		}
	}
	one := big.NewRat(1, 1)
	for n := int64(maxSteps - 3); n < maxSteps+3; n++ {
		steps(t, big.NewRat(n, 3), big.NewRat(1, 3))
		steps(t, big.NewRat(n*1000000-1, 1000000), one)
		steps(t, big.NewRat(n*1000000+1, 1000000), one)
		steps(t, one, big.NewRat(1, n))
	}
}

func TestStepsOfGreatNumbers(t *testing.T) {
	below, next := power(limbBits-2, 1), power(limbBits-2, 3)
	list := []*big.Rat{
		new(big.Rat).SetFrac(below, next), new(big.Rat).SetFrac(next, below), new(big.Rat).SetFrac(power(limbBits, -1), power(limbBits-1, 7)), new(big.Rat).SetFrac(power(limbBits-1, 9), below),
		new(big.Rat).SetInt(power(limbBits, -1)), new(big.Rat).SetFrac(big.NewInt(1), power(limbBits, -1)), new(big.Rat).SetFrac(below, power(limbBits-14, 1)), new(big.Rat).SetFrac(power(limbBits-14, 1), below), big.NewRat(1, 1), big.NewRat(1, 3),
	}
	for _, horizon := range list {
		for _, step := range list {
			steps(t, horizon, step)
		}
	}
	for n := int64(1); n <= maxSteps+1; n += 455 {
		step := new(big.Rat).SetFrac(power(limbBits-96, 1), power(limbBits-100, 3))
		horizon := new(big.Rat).Mul(step, big.NewRat(n, 1))
		steps(t, horizon, step)
		least := new(big.Rat).SetFrac(big.NewInt(1), power(60, 0))
		steps(t, horizon.Sub(horizon, least.Mul(least, step)), step)
	}
}

func TestStepsHangsOnHorizonAndStepAlone(t *testing.T) {
	if n, e := model.Steps(model.Model{Horizon: rat("1"), Step: rat("2/5")}); n != 3 || e != api.OK {
		t.Errorf("%d steps, error %d", n, e)
	}
}

func TestSame(t *testing.T) {
	for _, make := range []func() model.Model{common, func() model.Model { return sized(16, 16, 32, 32) }, func() model.Model { return sized(1, 0, 0, 0) }, func() model.Model { return sized(3, 0, 2, 1) }} {
		if !model.Same(make(), make()) {
			t.Error("a model isn't the same as itself")
		}
	}
	differs := func(what string, change func(m *model.Model)) {
		t.Helper()
		m := common()
		change(&m)
		if model.Same(common(), m) || model.Same(m, common()) || !model.Same(m, m) {
			t.Errorf("%s: the same", what)
		}
	}
	one := common()
	for i := range numbers(&one) {
		if ratio.Sign(*numbers(&one)[i]) != 0 {
			differs("another sign", func(m *model.Model) { *numbers(m)[i] = ratio.Neg(*numbers(m)[i]) })
		}
		differs("another number", func(m *model.Model) { *numbers(m)[i] = rat("123456789/1000000007") })
		differs("a great number", func(m *model.Model) {
			*numbers(m)[i] = ofBig(new(big.Rat).SetFrac(power(limbBits, -1), power(limbBits-1, 0)))
		})
	}
	for i := range lists(&one) {
		differs("a number less", func(m *model.Model) { *lists(m)[i] = (*lists(m)[i])[1:] })
		differs("a number more", func(m *model.Model) { *lists(m)[i] = append(*lists(m)[i], ratio.Zero()) })
	}
	for i := range tables(&one) {
		differs("a row less", func(m *model.Model) { *tables(m)[i] = (*tables(m)[i])[1:] })
		differs("a row more", func(m *model.Model) { *tables(m)[i] = append(*tables(m)[i], nil) })
	}
	differs("another Dim", func(m *model.Model) { m.Dim++ })
	differs("other Inputs", func(m *model.Model) { m.Inputs-- })
	differs("another claim's kind", func(m *model.Model) { m.Claims[0].Never = !m.Claims[0].Never })
	differs("a claim less", func(m *model.Model) { m.Claims = m.Claims[1:] })
	differs("no claims", func(m *model.Model) { m.Claims = nil })
	differs("a claim twice", func(m *model.Model) { m.Claims = append(m.Claims, m.Claims[0]) })
	differs("claims in another order", func(m *model.Model) { slices.Reverse(m.Claims) })
	differs("ways in another order", func(m *model.Model) { slices.Reverse(m.Start.Gens) })
	differs("sets in another order", func(m *model.Model) { m.Start, m.Input = m.Input, m.Start })
	none := sized(1, 0, 0, 0)
	none.Start.Gens, none.Claims, none.B = [][]api.Rat{}, []model.Claim{}, [][]api.Rat{nil}
	if !model.Same(none, sized(1, 0, 0, 0)) {
		t.Error("none isn't the same as none")
	}
}

// P10.3

// goes tells whether a set's point is that one.
func goes(t *testing.T, z model.Zono, by, want string, wantE api.Errno) {
	t.Helper()
	got, e := model.Point(z, rats(by))
	if e != wantE || text(got) != want {
		t.Errorf("by %s: %s, error %d, not %s, %d", by, text(got), e, want, wantE)
	}
	for _, x := range got {
		if f := ratio.Check(x); f != api.OK {
			t.Errorf("by %s: a ratio that can't be: error %d", by, f)
		}
	}
}

func TestPoint(t *testing.T) {
	z := model.Zono{Center: rats("1 -2/3"), Gens: [][]api.Rat{rats("2 0"), rats("-1/2 5"), rats("0 0")}}
	for by, want := range map[string]string{
		"0 0 0": "1 -2/3", "1 0 0": "3 -2/3", "-1 0 0": "-1 -2/3", "0 1 0": "1/2 13/3", "0 -1 1": "3/2 -17/3", "1/2 1/3 -1": "11/6 1", "-1 -1 -1": "-1/2 -17/3", "1 1 1": "5/2 13/3", "-0.25 0.2 0.999": "2/5 1/3",
	} {
		goes(t, z, by, want, api.OK)
	}
	middle := model.Zono{Center: rats("7 -1/9 0")}
	goes(t, middle, "", "7 -1/9 0", api.OK)
	goes(t, model.Zono{Gens: [][]api.Rat{nil, {}}}, "1 -1", "", api.OK)
	goes(t, model.Zono{}, "", "", api.OK)
	goes(t, model.Zono{Center: rats("0"), Gens: [][]api.Rat{rats("1")}}, "-1/2", "-1/2", api.OK)
}

func TestPointOfManyWays(t *testing.T) {
	m := mixer{8}
	z := model.Zono{Center: m.list(maxDim), Gens: m.table(maxGens, maxDim)}
	var by []api.Rat
	for i := range maxGens {
		by = append(by, ratio.Of(int64(i-maxGens/2), maxGens/2))
	}
	got, e := model.Point(z, by)
	if e != api.OK || len(got) != maxDim {
		t.Fatalf("%d numbers, error %d", len(got), e)
	}
	for i := range maxDim {
		want := toBig(z.Center[i])
		for j, way := range z.Gens {
			want.Add(want, new(big.Rat).Mul(toBig(way[i]), toBig(by[j])))
		}
		if toBig(got[i]).Cmp(want) != 0 {
			t.Errorf("at the place %d: %s, not %s", i, ratio.Text(got[i]), want)
		}
	}
}

func TestPointBeyond(t *testing.T) {
	z := model.Zono{Center: rats("1"), Gens: [][]api.Rat{rats("2"), rats("3")}}
	for _, by := range []string{"", "0", "1", "2", "0 0 0", "2 2 2", "-1 -1 -1 -1"} {
		goes(t, z, by, "", api.ErrShape)
	}
	goes(t, model.Zono{Center: rats("1")}, "0", "", api.ErrShape)
	goes(t, model.Zono{Center: rats("1")}, "2", "", api.ErrShape)
	for _, far := range []string{"2", "-2", "1.0000000000000001", "-1.0000000000000001", "10000000000000000000000/9999999999999999999999", "-123456789123456789123456789"} {
		for _, by := range []string{far + " 0", "0 " + far, far + " " + far, "1 " + far} {
			goes(t, z, by, "", api.ErrRange)
		}
	}
	// A number beyond is told of ahead of what has no room.
	great := ofBig(new(big.Rat).SetInt(power(limbBits, -1)))
	z = model.Zono{Center: rats("1"), Gens: [][]api.Rat{{great}, {great}}}
	goes(t, z, "1 1", "", api.ErrLimbs)
	goes(t, z, "1 2", "", api.ErrRange)
	goes(t, z, "1", "", api.ErrShape)
	goes(t, z, "0 0", "1", api.OK)
	near := new(big.Rat).SetFrac(power(limbBits, -2), power(limbBits, -1))
	z = model.Zono{Center: rats("0"), Gens: [][]api.Rat{rats("1")}}
	for _, x := range []*big.Rat{near, new(big.Rat).Neg(near)} {
		got, e := model.Point(z, []api.Rat{ofBig(x)})
		if e != api.OK || toBig(got[0]).Cmp(x) != 0 {
			t.Errorf("almost the whole way: error %d", e)
		}
		if _, e := model.Point(z, []api.Rat{ofBig(new(big.Rat).Inv(x))}); e != api.ErrRange {
			t.Errorf("a little more than the whole way: error %d", e)
		}
	}
}

// P1

func TestNoCallPanics(t *testing.T) {
	models := []model.Model{{}, common(), sized(17, 17, 33, 33), sized(0, 0, 1, 1), {Dim: math.MaxInt, Inputs: math.MinInt}, {Dim: 1, Start: model.Zono{Gens: make([][]api.Rat, 100000)}, Claims: make([]model.Claim, 100000)}}
	one := common()
	for _, x := range append(wrong(), ratio.Zero(), rat("-1"), api.Rat{Num: api.Int{Size: slices.Repeat(api.Nat{math.MaxUint32}, 1<<16)}, Den: slices.Repeat(api.Nat{math.MaxUint32}, 1<<16)}) {
		for i := range numbers(&one) {
			m := common()
			*numbers(&m)[i] = x
			models = append(models, m)
		}
	}
	for i := range lists(&one) {
		m := common()
		*lists(&m)[i] = nil
		models = append(models, m)
		m = common()
		*lists(&m)[i] = slices.Repeat(rats("2/3"), 40)
		models = append(models, m)
	}
	for _, m := range models {
		model.Check(m)
		model.Same(m, common())
		model.Same(m, m)
		if n, e := model.Steps(m); e != api.OK && n != 0 {
			t.Errorf("%d steps beside error %d", n, e)
		}
		for _, z := range []model.Zono{m.Start, m.Input} {
			for _, by := range [][]api.Rat{nil, make([]api.Rat, len(z.Gens)), slices.Repeat(rats("1/2"), len(z.Gens)), slices.Repeat(wrong()[3:4], len(z.Gens)), m.C} {
				if p, e := model.Point(z, by); e != api.OK && len(p) > 0 {
					t.Errorf("a point beside error %d", e)
				}
			}
		}
	}
	for _, by := range wrong() {
		model.Point(model.Zono{Center: rats("1 2"), Gens: [][]api.Rat{rats("3 4")}}, []api.Rat{by})
	}
	if p, e := model.Point(model.Zono{Center: rats("1 2"), Gens: [][]api.Rat{rats("3")}}, rats("1")); e == api.OK || len(p) > 0 {
		t.Error("a point of a way of another length")
	}
}
