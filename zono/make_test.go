package zono_test

import (
	"math/big"
	"slices"
	"testing"

	"girdle/api"
	"girdle/dyad"
	"girdle/model"
	"girdle/span"
	"girdle/zono"
)

// P16.2

// spans is so many spans, as wide as their first numbers times 2 to the power of wide; above 0 alone.
func (m *mixer) spans(n, wide int) []api.Span {
	list := make([]api.Span, n)
	for i := range list {
		x := m.dyad()
		width, e := dyad.Mul(at(int64(m.next(8)), wide), dyad.Abs(x))
		hi, f := dyad.Add(x, width)
		if e != api.OK || f != api.OK {
			panic("a test's number is beyond the bounds")
		}
		list[i] = api.Span{Lo: x, Hi: hi}
	}
	return list
}

// table is a table of spans.
func (m *mixer) table(rows, cols, wide int) [][]api.Span {
	var a [][]api.Span
	for range rows {
		a = append(a, m.spans(cols, wide))
	}
	return a
}

// between is a number of a span: at an end, in the middle, or elsewhere.
func (m *mixer) between(a api.Span) *big.Rat {
	lo, hi := exact(a.Lo), exact(a.Hi)
	return plus(lo, times(minus(hi, lo), big.NewRat(int64(m.next(5)), 4)))
}

// middles is the middles of a table, and half of how wide its spans are.
func middles(a [][]api.Span) ([][]*big.Rat, [][]*big.Rat) {
	mids, halves := make([][]*big.Rat, len(a)), make([][]*big.Rat, len(a))
	for i, row := range a {
		for _, x := range row {
			lo, hi := exact(x.Lo), exact(x.Hi)
			mids[i] = append(mids[i], times(plus(lo, hi), big.NewRat(1, 2)))
			halves[i] = append(halves[i], times(minus(hi, lo), big.NewRat(1, 2)))
		}
	}
	return mids, halves
}

// slackOf is how much more an image may be, place by place: what so many bits can't tell, and what comes of how wide the table is.
func slackOf(s truth, mids, halves [][]*big.Rat, bits int) []*big.Rat {
	list := zeros(len(mids))
	reach := s.reach()
	for i := range mids {
		wide := inner(halves[i], reach)
		all := wide
		for j, x := range mids[i] {
			all = plus(all, times(size(x), reach[j]))
		}
		list[i] = plus(times(all, part(bits-3)), wide)
	}
	return list
}

func TestImage(t *testing.T) {
	m := mixer(7)
	for range 12 {
		n, rows, ways := m.next(4), m.next(4), m.next(5)
		z := m.set(n, ways)
		s := truthOf(z)
		for _, wide := range []int{-300, -40, -3} {
			a := m.table(rows, n, wide)
			mids, halves := middles(a)
			for _, bits := range bitCounts() {
				got, e := zono.Image(a, z, bits)
				may(t, "Image", got, e, rows, ways)
				within(t, "Image", m.directions(rows), got, s.image(mids).boxed(ways).support, slackOf(s, mids, halves, bits))
				made := truthOf(got)
				for range 4 {
					any := make([][]*big.Rat, rows)
					for i, row := range a {
						for _, x := range row {
							any[i] = append(any[i], m.between(x))
						}
					}
					for _, dir := range m.directions(rows) {
						if made.support(dir).Cmp(s.image(any).support(dir)) < 0 {
							t.Fatalf("Image: a table within goes farther")
						}
					}
				}
			}
		}
	}
}

// TestImageOfWhatIsNarrow: where numbers are taken from each other, no bits are lost.
func TestImageOfWhatIsNarrow(t *testing.T) {
	more := func(n, by int64) api.Dyad {
		x, _ := dyad.Add(at(1, 300), at(n, int(by)))
		return x
	}
	z := zono.Zono{Center: []api.Dyad{more(3, 0), more(1, 0)}, Gens: [][]api.Dyad{{more(5, -20), more(-3, -20)}, {more(1, 200), more(1, 200)}}, Round: dyads(0, 0)}
	got, e := zono.Image([][]api.Span{points(1, -1), points(-4, 4)}, z, 4)
	may(t, "Image of what is narrow", got, e, 2, 2)
	if !same(got.Center, dyads(2, -8)) || !same(got.Gens[0], []api.Dyad{at(1, -17), at(-1, -15)}) || !same(got.Gens[1], dyads(0, 0)) || !same(got.Round, dyads(0, 0)) {
		t.Errorf("Image of what is narrow: %v", got)
	}
	for _, bits := range bitCounts() {
		far, e := zono.Support(z, points(1, -1), bits)
		upTo(t, "Support of what is narrow", far, e, truthOf(z).support([]*big.Rat{big.NewRat(1, 1), big.NewRat(-1, 1)}), bits)
	}
	// The middle and a way that goes as far back leave little.
	z = zono.Zono{Center: []api.Dyad{more(1, 0)}, Gens: [][]api.Dyad{{at(1, 300)}}, Round: dyads(0)}
	far, e := zono.Support(z, points(-1), 2)
	upTo(t, "Support of what is left", far, e, big.NewRat(-1, 1), 2)
}

func TestImageOfShapes(t *testing.T) {
	z := zono.Zono{Center: dyads(1, 2), Gens: [][]api.Dyad{dyads(3, 4), dyads(0, 0), dyads(-1, 5)}, Round: dyads(2, 1)}
	got, e := zono.Image([][]api.Span{points(0, 1), points(-1, 0), points(2, 3)}, z, 20)
	may(t, "Image of more places", got, e, 3, 3)
	if !same(got.Center, dyads(2, -1, 8)) || !same(got.Gens[0], dyads(4, -3, 18)) || !same(got.Gens[1], dyads(0, 0, 0)) || !same(got.Gens[2], dyads(5, 1, 13)) || !same(got.Round, dyads(1, 2, 7)) {
		t.Errorf("Image of more places: %v", got)
	}
	got, e = zono.Image(nil, z, 20)
	may(t, "Image by no rows", got, e, 0, 3)
	got, e = zono.Image([][]api.Span{{}, {}}, zono.Zono{Gens: [][]api.Dyad{{}}}, 20)
	may(t, "Image of no places", got, e, 2, 1)
	if !same(got.Center, dyads(0, 0)) || !same(got.Gens[0], dyads(0, 0)) || !same(got.Round, dyads(0, 0)) {
		t.Errorf("Image of no places: %v", got)
	}
	// Nothing, and what is great, are taken together.
	z = zono.Zono{Center: []api.Dyad{at(1, 30000), {}}, Gens: [][]api.Dyad{{{}, at(1, -30000)}}, Round: dyads(0, 0)}
	got, e = zono.Image([][]api.Span{points(1, 0), points(0, 1)}, z, 20)
	may(t, "Image of what is far", got, e, 2, 1)
	if !same(got.Center, z.Center) || !same(got.Gens[0], z.Gens[0]) {
		t.Errorf("Image of what is far: %v", got)
	}
}

// short tells whether a set's numbers have no more bits than that.
func short(t *testing.T, what string, z zono.Zono, e api.Errno, bits int) {
	t.Helper()
	if e != api.OK {
		t.Fatalf("%s: error %d", what, e)
	}
	for _, list := range slices.Concat([][]api.Dyad{z.Center, z.Round}, z.Gens) {
		for _, x := range list {
			if bitsOf(x) > bits {
				t.Fatalf("%s: %d bits, not %d", what, bitsOf(x), bits)
			}
		}
	}
}

// TestNumbersKeepShort: however often a set is moved, its numbers have no more bits.
func TestNumbersKeepShort(t *testing.T) {
	m := mixer(8)
	z, e := zono.Of(model.Zono{Center: m.rats(3), Gens: [][]api.Rat{m.rats(3), m.rats(3), m.rats(3)}}, 40)
	short(t, "Of", z, e, 40)
	y, by := m.set(3, 1), m.table(3, 3, -30)
	for range 20 {
		z, e = zono.Image(by, z, 40)
		short(t, "Image", z, e, 40)
		z, e = zono.Times(z, api.Span{Lo: at(-1, 0), Hi: at(12345, -14)}, 40)
		short(t, "Times", z, e, 40)
		z, e = zono.Add(z, y, 40)
		short(t, "Add", z, e, 40)
		z, e = zono.Wider(z, at(12345, -30), 40)
		short(t, "Wider", z, e, 40)
	}
}

func TestTimesOfOneNumber(t *testing.T) {
	m := mixer(9)
	for range 25 {
		n, ways := m.next(4), m.next(5)
		z, by := m.set(n, ways), m.dyad()
		s, often := truthOf(z), exact(by)
		want := func(dir []*big.Rat) *big.Rat { return s.support(scaled(dir, often)) }
		for _, bits := range bitCounts() {
			got, e := zono.Times(z, span.Point(by), bits)
			may(t, "Times", got, e, n, ways)
			within(t, "Times", m.directions(n), got, want, scaled(s.reach(), times(size(often), part(bits-3))))
		}
	}
	z, e := zono.Times(zono.Zono{Center: dyads(1, 2), Gens: [][]api.Dyad{dyads(3, 4)}, Round: dyads(0, 5)}, point(-3, -1), 20)
	may(t, "Times of a number below 0", z, e, 2, 1)
	if !same(z.Center, []api.Dyad{at(-3, -1), at(-3, 0)}) || !same(z.Round, []api.Dyad{{}, at(15, -1)}) {
		t.Errorf("Times of a number below 0: %v", z)
	}
}

// farOf is how far a set goes in a direction, times any number of a span.
func farOf(s truth, by api.Span, dir []*big.Rat) *big.Rat {
	low, high := s.support(scaled(dir, exact(by.Lo))), s.support(scaled(dir, exact(by.Hi)))
	if low.Cmp(high) > 0 {
		return low
	}
	return high
}

func TestTimesOfManyNumbers(t *testing.T) {
	m := mixer(10)
	for range 60 {
		n, ways := m.next(4), m.next(5)
		z, by := m.set(n, ways), m.spans(1, m.next(60)-50)[0]
		s := truthOf(z)
		reach, half := s.reach(), times(minus(exact(by.Hi), exact(by.Lo)), big.NewRat(1, 2))
		for _, bits := range bitCounts() {
			got, e := zono.Times(z, by, bits)
			if e != api.OK || zono.Check(got, n) != api.OK || len(got.Gens) > ways+1 {
				t.Fatalf("Times: error %d, %d ways of %d", e, len(got.Gens), ways)
			}
			// Behind the middle it may go farther by what the ways come to, as often as the span is wide.
			slack := zeros(n)
			for i := range slack {
				slack[i] = plus(times(reach[i], times(exact(span.Size(by)), part(bits-4))), times(times(half, big.NewRat(2, 1)), minus(reach[i], size(s.center[i]))))
			}
			within(t, "Times", m.directions(n), got, func(dir []*big.Rat) *big.Rat { return farOf(s, by, dir) }, slack)
		}
	}
}

// TestTimesToAndFro: by a span that goes as far both ways nothing is too much, in any direction.
func TestTimesToAndFro(t *testing.T) {
	m := mixer(11)
	for range 25 {
		n, ways := m.next(4), m.next(5)
		z, by := m.set(n, ways), span.Even(m.dyad())
		s := truthOf(z)
		for _, bits := range bitCounts() {
			got, e := zono.Times(z, by, bits)
			if e != api.OK || zono.Check(got, n) != api.OK {
				t.Fatalf("Times: error %d", e)
			}
			within(t, "Times to and fro", m.directions(n), got, func(dir []*big.Rat) *big.Rat { return farOf(s, by, dir) }, scaled(s.reach(), times(exact(by.Hi), part(bits-4))))
		}
	}
}

// TestTimesAddsFewWays: where one more way would be no less, or there is no room for it, there is none.
func TestTimesAddsFewWays(t *testing.T) {
	wide, third := api.Span{Lo: at(1, 0), Hi: at(2, 0)}, api.Span{Lo: at(5, -4), Hi: at(11, -5)}
	along := zono.Zono{Center: dyads(0, 7), Gens: [][]api.Dyad{dyads(1, 2)}, Round: dyads(1, 0)}
	got, e := zono.Times(along, wide, 20)
	may(t, "Times of a middle along one place", got, e, 2, 1)
	if !same(got.Round, []api.Dyad{at(2, 0), at(7, -1)}) {
		t.Errorf("Times of a middle along one place: %v", got)
	}
	across := zono.Zono{Center: dyads(5, 7), Gens: [][]api.Dyad{dyads(1, 2)}, Round: dyads(1, 0)}
	got, e = zono.Times(across, wide, 20)
	may(t, "Times of a middle along two places", got, e, 2, 2)
	if !same(got.Gens[1], []api.Dyad{at(5, -1), at(7, -1)}) || !same(got.Round, dyads(2, 0)) {
		t.Errorf("Times of a middle along two places: %v", got)
	}
	got, e = zono.Times(across, third, 4)
	may(t, "Times of what is rounded", got, e, 2, 1)
	got, e = zono.Times(across, third, 20)
	may(t, "Times of what is wider than so many bits", got, e, 2, 2)
	across.Gens = slices.Repeat(across.Gens, maxGens)
	got, e = zono.Times(across, wide, 20)
	may(t, "Times of as many ways as there are", got, e, 2, maxGens)
}
