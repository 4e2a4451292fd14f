package zono_test

import (
	"math/big"
	"testing"

	"girdle/api"
	"girdle/dyad"
	"girdle/span"
	"girdle/zono"
)

// P16.3

// numberOf is a ratio of math/big that is a number.
func numberOf(x *big.Rat) api.Dyad {
	exp := x.Denom().BitLen() - 1
	return at(x.Num().Int64(), -exp)
}

func TestSupport(t *testing.T) {
	m := mixer(12)
	for range 40 {
		n, ways := m.next(5), m.next(6)
		z := m.set(n, ways)
		s := truthOf(z)
		for _, dir := range m.directions(n) {
			spans := make([]api.Span, n)
			for i, x := range dir {
				spans[i] = span.Point(numberOf(x))
			}
			for _, bits := range bitCounts() {
				far, e := zono.Support(z, spans, bits)
				upTo(t, "Support", far, e, s.support(dir), bits)
			}
		}
	}
}

func TestSupportOfWideDirections(t *testing.T) {
	m := mixer(13)
	for range 40 {
		n, ways := m.next(4)+1, m.next(5)
		z := m.set(n, ways)
		s := truthOf(z)
		reach := s.reach()
		for _, wide := range []int{-60, -20, -3} {
			dir := m.spans(n, wide)
			mids, halves := middles([][]api.Span{dir})
			least := s.support(mids[0])
			most := plus(least, inner(halves[0], reach))
			for _, bits := range bitCounts() {
				far, e := zono.Support(z, dir, bits)
				upTo(t, "Support, at most", far, e, most, bits)
				for range 6 {
					any := make([]*big.Rat, n)
					for i, x := range dir {
						any[i] = m.between(x)
					}
					if exact(far).Cmp(s.support(any)) < 0 {
						t.Fatal("Support: a direction within goes farther")
					}
				}
			}
		}
	}
}

func TestBoxAndReach(t *testing.T) {
	m := mixer(14)
	for range 40 {
		n, ways := m.next(5), m.next(6)
		z := m.set(n, ways)
		s := truthOf(z)
		most := new(big.Rat)
		for _, x := range s.reach() {
			if x.Cmp(most) > 0 {
				most = x
			}
		}
		for _, bits := range bitCounts() {
			b, e := zono.Box(z, bits)
			if e != api.OK || len(b) != n {
				t.Fatalf("Box: error %d", e)
			}
			for i, place := range b {
				dir := zeros(n)
				dir[i].SetInt64(1)
				upTo(t, "Box, upwards", place.Hi, e, s.support(dir), bits)
				dir[i].SetInt64(-1)
				upTo(t, "Box, downwards", dyad.Neg(place.Lo), e, s.support(dir), bits)
			}
			reach, e := zono.Reach(z, bits)
			upTo(t, "Reach", reach, e, most, bits)
		}
	}
}

func TestOfNothing(t *testing.T) {
	b, e := zono.Box(zono.Zono{}, 20)
	if e != api.OK || len(b) != 0 {
		t.Errorf("Box: %v, error %d", b, e)
	}
	reach, e := zono.Reach(zono.Zono{}, 20)
	upTo(t, "Reach", reach, e, new(big.Rat), 20)
	far, e := zono.Support(zono.Zono{}, nil, 20)
	upTo(t, "Support", far, e, new(big.Rat), 20)
	far, e = zono.Support(zono.Point(3), points(1, 2, 3), 20)
	upTo(t, "Support of a point", far, e, new(big.Rat), 20)
	great := zono.Zono{Center: []api.Dyad{at(-1, 40000)}, Gens: [][]api.Dyad{dyads(0)}, Round: dyads(0)}
	reach, e = zono.Reach(great, 20)
	if e != api.OK || dyad.Compare(reach, at(1, 40000)) != 0 {
		t.Errorf("Reach of what is great: error %d", e)
	}
	b, e = zono.Box(great, 20)
	if e != api.OK || dyad.Compare(b[0].Lo, great.Center[0]) != 0 || dyad.Compare(b[0].Hi, great.Center[0]) != 0 {
		t.Errorf("Box of what is great: error %d", e)
	}
}

// TestSquareAndTurn: a square, and what a turn makes of it, together, go as far as both.
func TestSquareAndTurn(t *testing.T) {
	square := zono.Zono{Center: dyads(0, 0), Gens: [][]api.Dyad{dyads(1, 0), dyads(0, 1)}, Round: dyads(0, 0)}
	turned, e := zono.Image([][]api.Span{points(1, 1), points(-1, 1)}, square, 20)
	may(t, "Image", turned, e, 2, 2)
	both, e := zono.Add(square, turned, 20)
	may(t, "Add", both, e, 2, 4)
	for _, x := range []struct{ x, y, want int64 }{{1, 0, 3}, {1, 1, 4}, {2, -1, 7}} {
		far, e := zono.Support(both, points(x.x, x.y), 20)
		upTo(t, "Support", far, e, big.NewRat(x.want, 1), 20)
	}
}
