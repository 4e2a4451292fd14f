package zono_test

import (
	"math"
	"math/big"
	"slices"
	"testing"

	"girdle/api"
	"girdle/dyad"
	"girdle/limbs"
	"girdle/model"
	"girdle/ratio"
	"girdle/whole"
	"girdle/zono"
)

// P16.1

func TestPoint(t *testing.T) {
	if zono.MaxGens != maxGens {
		t.Fatalf("MaxGens is %d", zono.MaxGens)
	}
	for n, want := range map[int]int{math.MinInt: 0, -17: 0, -1: 0, 0: 0, 1: 1, 2: 2, 7: 7, 15: 15, 16: 16, 17: 16, 1000: 16, math.MaxInt: 16} {
		z := zono.Point(n)
		if !same(z.Center, make([]api.Dyad, want)) || !same(z.Round, make([]api.Dyad, want)) || len(z.Gens) != 0 || zono.Check(z, want) != api.OK {
			t.Errorf("Point of %d: %v", n, z)
		}
	}
}

func TestCheckOfPlaces(t *testing.T) {
	m := mixer(1)
	for places := range maxDim + 3 {
		z := m.set(places, 3)
		for n := -2; n < maxDim+3; n++ {
			want := api.ErrShape
			if n == places && n <= maxDim {
				want = api.OK
			}
			if e := zono.Check(z, n); e != want {
				t.Errorf("%d, not %d: error %d", places, n, e)
			}
		}
	}
	for _, n := range []int{math.MinInt, -1, 1, maxDim + 1, math.MaxInt} {
		if e := zono.Check(zono.Zono{}, n); e != api.ErrShape {
			t.Errorf("of nothing, not %d: error %d", n, e)
		}
	}
	if e := zono.Check(zono.Zono{}, 0); e != api.OK {
		t.Errorf("of nothing: error %d", e)
	}
}

func TestCheckOfLists(t *testing.T) {
	m := mixer(2)
	whole := m.set(3, 4)
	for _, n := range []int{0, 2, 4} {
		z := whole
		z.Center = m.dyads(n)
		list := []zono.Zono{z}
		z = whole
		z.Round = make([]api.Dyad, n)
		list = append(list, z)
		for k := range whole.Gens {
			z = whole
			z.Gens = slices.Clone(whole.Gens)
			z.Gens[k] = m.dyads(n)
			list = append(list, z)
		}
		for i, z := range list {
			if e := zono.Check(z, 3); e != api.ErrShape {
				t.Errorf("the list %d of %d: error %d", i, n, e)
			}
		}
	}
}

func TestCheckOfManyWays(t *testing.T) {
	z := zono.Point(2)
	z.Gens = slices.Repeat([][]api.Dyad{dyads(1, 2)}, maxGens)
	if e := zono.Check(z, 2); e != api.OK {
		t.Errorf("as many ways as there are: error %d", e)
	}
	z.Gens = append(z.Gens, dyads(1, 2))
	if e := zono.Check(z, 2); e != api.ErrOrder {
		t.Errorf("one way more: error %d", e)
	}
	z.Center[0] = api.Dyad{Man: whole.Of(2)}
	if e := zono.Check(z, 2); e != api.ErrOrder {
		t.Errorf("too many ways are told of ahead of numbers, not error %d", e)
	}
	z.Gens[7] = dyads(1)
	if e := zono.Check(z, 2); e != api.ErrShape {
		t.Errorf("places are told of ahead of ways, not error %d", e)
	}
}

func TestCheckOfNumbers(t *testing.T) {
	even, far, long := api.Dyad{Man: whole.Of(2)}, api.Dyad{Man: whole.Of(1), Exp: maxExp + 1}, api.Dyad{Man: whole.Nat(slices.Repeat(api.Nat{5}, 600))}
	for x, want := range map[*api.Dyad]api.Errno{&even: api.ErrForm, &far: api.ErrRange, &long: api.ErrLimbs} {
		for i := range 3 {
			for k := range 6 {
				m := mixer(3)
				z := m.set(3, 4)
				list := slices.Concat([][]api.Dyad{z.Center}, z.Gens, [][]api.Dyad{z.Round})[k]
				list[i] = *x
				if e := zono.Check(z, 3); e != want {
					t.Errorf("at the place %d of the list %d: error %d, not %d", i, k, e, want)
				}
			}
		}
	}
	for i := range 3 {
		z := zono.Point(3)
		z.Round[i] = at(-1, -100)
		if e := zono.Check(z, 3); e != api.ErrRange {
			t.Errorf("a size below 0 at the place %d: error %d", i, e)
		}
		z.Round[2-i] = even
		if i != 1 && zono.Check(z, 3) != api.ErrForm {
			t.Errorf("numbers are told of ahead of sizes below 0, not error %d", zono.Check(z, 3))
		}
	}
	z := zono.Zono{Center: dyads(-1, -2), Gens: [][]api.Dyad{dyads(-3, -4)}, Round: dyads(0, 5)}
	if e := zono.Check(z, 2); e != api.OK {
		t.Errorf("other numbers below 0: error %d", e)
	}
}

// bitCounts is how many bits are asked for.
func bitCounts() []int { return []int{2, 3, 8, 31, 60, 200, maxBits} }

func TestOf(t *testing.T) {
	m := mixer(4)
	for range 20 {
		n, ways := m.next(4), m.next(5)
		z := model.Zono{Center: m.rats(n)}
		for range ways {
			z.Gens = append(z.Gens, m.rats(n))
		}
		want := truthOfModel(z)
		for _, bits := range bitCounts() {
			got, e := zono.Of(z, bits)
			may(t, "Of", got, e, n, ways)
			short(t, "Of", got, e, bits)
			within(t, "Of", m.directions(n), got, want.support, scaled(want.reach(), part(bits-3)))
		}
	}
}

func TestOfNumbers(t *testing.T) {
	z, e := zono.Of(model.Zono{Center: []api.Rat{ratio.Of(7, 4), ratio.Of(-3, 1)}, Gens: [][]api.Rat{{ratio.Of(1, 2), ratio.Of(0, 1)}, {ratio.Of(-5, 8), ratio.Of(6, 1)}}}, 3)
	may(t, "Of numbers", z, e, 2, 2)
	if !same(z.Center, []api.Dyad{at(7, -2), at(-3, 0)}) || !same(z.Gens[0], []api.Dyad{at(1, -1), {}}) || !same(z.Gens[1], []api.Dyad{at(-5, -3), at(3, 1)}) || !same(z.Round, make([]api.Dyad, 2)) {
		t.Errorf("what isn't rounded: %v", z)
	}
	for _, places := range []int{0, maxDim} {
		z, e = zono.Of(model.Zono{Center: slices.Repeat([]api.Rat{ratio.Of(1, 3)}, places)}, 20)
		may(t, "Of so many places", z, e, places, 0)
	}
	z, e = zono.Of(model.Zono{Center: rats(1), Gens: slices.Repeat([][]api.Rat{rats(1)}, maxGens+1)}, 20)
	if e != api.OK || len(z.Gens) != maxGens+1 {
		t.Errorf("Of too many ways: %d, error %d", len(z.Gens), e)
	}
}

func TestOfWrongOnes(t *testing.T) {
	pair, third := rats(1, 2), api.Rat{Num: whole.Of(1), Den: limbs.Of(3)}
	for _, z := range []model.Zono{{Center: pair, Gens: [][]api.Rat{rats(1)}}, {Center: pair, Gens: [][]api.Rat{pair, rats(1, 2, 3)}}, {Gens: [][]api.Rat{pair}}, {Center: pair, Gens: [][]api.Rat{nil}}} {
		for _, bits := range []int{1, 20} {
			got, e := zono.Of(z, bits)
			none(t, "Of unlike places", got, e, api.ErrShape)
		}
	}
	for _, bits := range []int{math.MinInt, -1, 0, 1, maxBits + 1, math.MaxInt} {
		got, e := zono.Of(model.Zono{Center: []api.Rat{third, ratio.Zero()}, Gens: [][]api.Rat{pair}}, bits)
		none(t, "Of wrong bits", got, e, api.ErrRange)
	}
	// So long a ratio can't be shifted.
	long := api.Rat{Num: whole.Of(1), Den: slices.Repeat(api.Nat{7}, 512)}
	for _, z := range []model.Zono{{Center: []api.Rat{long}}, {Center: rats(1), Gens: [][]api.Rat{rats(2), {long}}}} {
		got, e := zono.Of(z, 60)
		none(t, "Of what has no room", got, e, api.ErrLimbs)
	}
}

// P16.2

func TestAdd(t *testing.T) {
	m := mixer(5)
	for range 30 {
		n := m.next(4)
		a, b := m.set(n, m.next(4)), m.set(n, m.next(4))
		x, y := truthOf(a), truthOf(b)
		want := func(dir []*big.Rat) *big.Rat { return plus(x.support(dir), y.support(dir)) }
		for _, bits := range bitCounts() {
			both, e := zono.Add(a, b, bits)
			may(t, "Add", both, e, n, len(a.Gens)+len(b.Gens))
			slack := zeros(n)
			for i := range slack {
				// Of the middles what is rounded is no more than what is left of their sum; it counts twice, once where they are, once in the sizes.
				slack[i] = times(part(bits-3), plus(size(plus(x.center[i], y.center[i])), plus(x.round[i], y.round[i])))
			}
			within(t, "Add", m.directions(n), both, want, slack)
			for k, way := range slices.Concat(a.Gens, b.Gens) {
				if !same(both.Gens[k], way) {
					t.Errorf("Add: another way %d", k)
				}
			}
		}
	}
}

func TestAddOfManyWays(t *testing.T) {
	many := func(n int) zono.Zono {
		z := zono.Point(1)
		z.Gens = slices.Repeat([][]api.Dyad{dyads(1)}, n)
		return z
	}
	both, e := zono.Add(many(4000), many(96), 20)
	may(t, "Add of as many ways as there are", both, e, 1, maxGens)
	for _, ways := range [][2]int{{4000, 97}, {maxGens, 1}, {0, maxGens + 1}, {maxGens, maxGens}} {
		both, e = zono.Add(many(ways[0]), many(ways[1]), 20)
		none(t, "Add of too many ways", both, e, api.ErrOrder)
	}
	both, e = zono.Add(many(maxGens), zono.Zono{Gens: [][]api.Dyad{nil}}, 1)
	none(t, "Add of too many ways is told first", both, e, api.ErrOrder)
}

func TestWider(t *testing.T) {
	m := mixer(6)
	for range 30 {
		n, ways := m.next(4), m.next(4)
		z, by := m.set(n, ways), m.dyad()
		s, much := truthOf(z), size(exact(by))
		want := func(dir []*big.Rat) *big.Rat {
			far := s.support(dir)
			for _, x := range dir {
				far = plus(far, times(size(x), much))
			}
			return far
		}
		for _, bits := range bitCounts() {
			wider, e := zono.Wider(z, by, bits)
			may(t, "Wider", wider, e, n, ways)
			slack := zeros(n)
			for i := range slack {
				slack[i] = times(part(bits-1), plus(much, s.round[i]))
			}
			within(t, "Wider", m.directions(n), wider, want, slack)
			if !same(wider.Center, z.Center) {
				t.Error("Wider: another middle")
			}
			for k, way := range z.Gens {
				if !same(wider.Gens[k], way) {
					t.Errorf("Wider: another way %d", k)
				}
			}
		}
	}
	z, e := zono.Wider(zono.Zono{Center: dyads(1, 2), Round: dyads(3, 0)}, at(-5, 0), 20)
	if e != api.OK || !same(z.Round, dyads(8, 5)) {
		t.Errorf("Wider by a number below 0: %v, error %d", z, e)
	}
}

// TestUnlikePlaces is of P16.2 and P16.3.
func TestUnlikePlaces(t *testing.T) {
	good := zono.Zono{Center: dyads(1, 2), Gens: [][]api.Dyad{dyads(3, 4)}, Round: dyads(5, 6)}
	for i, z := range []zono.Zono{
		{Center: dyads(1, 2), Gens: [][]api.Dyad{dyads(3, 4)}}, {Center: dyads(1), Gens: [][]api.Dyad{dyads(3, 4)}, Round: dyads(5, 6)}, {Center: dyads(1, 2), Gens: [][]api.Dyad{dyads(3, 4), dyads(3)}, Round: dyads(5, 6)},
		{Center: dyads(1, 2), Gens: [][]api.Dyad{dyads(3, 4), dyads(3, 4, 5)}, Round: dyads(5, 6)}, {Center: dyads(1, 2), Gens: [][]api.Dyad{nil}, Round: dyads(5, 6)}, {Center: dyads(1, 2), Round: dyads(5, 6, 7)}, {Gens: [][]api.Dyad{dyads(1, 2)}},
	} {
		for _, bits := range []int{1, 20} {
			got, e := zono.Image([][]api.Span{points(1, 2)}, z, bits)
			none(t, "Image", got, e, api.ErrShape)
			got, e = zono.Add(z, good, bits)
			none(t, "Add", got, e, api.ErrShape)
			got, e = zono.Add(good, z, bits)
			none(t, "Add", got, e, api.ErrShape)
			got, e = zono.Wider(z, at(1, 0), bits)
			none(t, "Wider", got, e, api.ErrShape)
			got, e = zono.Times(z, point(1, 0), bits)
			none(t, "Times", got, e, api.ErrShape)
			if x, e := zono.Support(z, points(1, 2), bits); e != api.ErrShape || dyad.Sign(x) != 0 {
				t.Errorf("Support of the set %d: error %d", i, e)
			}
			if b, e := zono.Box(z, bits); e != api.ErrShape || len(b) > 0 {
				t.Errorf("Box of the set %d: error %d", i, e)
			}
			if x, e := zono.Reach(z, bits); e != api.ErrShape || dyad.Sign(x) != 0 {
				t.Errorf("Reach of the set %d: error %d", i, e)
			}
		}
	}
	for _, bits := range []int{1, 20} {
		got, e := zono.Add(good, zono.Point(3), bits)
		none(t, "Add of other places", got, e, api.ErrShape)
		for _, row := range [][]api.Span{nil, points(1), points(1, 2, 3)} {
			got, e = zono.Image([][]api.Span{points(1, 2), row}, good, bits)
			none(t, "Image by other places", got, e, api.ErrShape)
			if x, e := zono.Support(good, row, bits); e != api.ErrShape || dyad.Sign(x) != 0 {
				t.Errorf("Support in %d places: error %d", len(row), e)
			}
		}
	}
}

// TestErrorsOfSpans is of P16.2 and P16.3.
func TestErrorsOfSpans(t *testing.T) {
	good := zono.Zono{Center: dyads(1, 2), Gens: [][]api.Dyad{dyads(3, 4)}, Round: dyads(5, 6)}
	far := zono.Zono{Center: []api.Dyad{at(1, 30000), at(1, 0)}, Gens: [][]api.Dyad{{at(1, 0), at(1, -30000)}}, Round: []api.Dyad{at(1, -30000), at(1, 30000)}}
	great := zono.Zono{Center: []api.Dyad{at(1, maxExp), at(1, maxExp)}, Gens: [][]api.Dyad{{at(1, maxExp), at(1, maxExp)}}, Round: []api.Dyad{at(1, maxExp), at(1, maxExp)}}
	for _, x := range []struct {
		z    zono.Zono
		by   int64
		bits int
		want api.Errno
	}{{good, 1, math.MinInt, api.ErrRange}, {good, 1, 1, api.ErrRange}, {good, 1, maxBits + 1, api.ErrRange}, {good, 1, math.MaxInt, api.ErrRange}, {far, 1, 20, api.ErrLimbs}, {great, 2, 20, api.ErrRange}} {
		by := point(x.by, 0)
		got, e := zono.Image([][]api.Span{{by, by}, {by, by}}, x.z, x.bits)
		none(t, "Image", got, e, x.want)
		if d, e := zono.Support(x.z, []api.Span{by, by}, x.bits); e != x.want || dyad.Sign(d) != 0 {
			t.Errorf("Support: error %d, not %d", e, x.want)
		}
		if x.want == api.ErrRange {
			got, e = zono.Times(x.z, by, x.bits)
			none(t, "Times", got, e, x.want)
		}
		if x.by == 1 {
			if d, e := zono.Reach(x.z, x.bits); e != x.want || dyad.Sign(d) != 0 {
				t.Errorf("Reach: error %d, not %d", e, x.want)
			}
			if b, e := zono.Box(x.z, x.bits); e != x.want || len(b) > 0 {
				t.Errorf("Box: error %d, not %d", e, x.want)
			}
			got, e = zono.Wider(x.z, at(1, 0), x.bits)
			none(t, "Wider", got, e, x.want)
			got, e = zono.Add(x.z, good, x.bits)
			none(t, "Add", got, e, x.want)
		}
	}
}
