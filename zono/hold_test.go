package zono_test

import (
	"math/big"
	"testing"

	"girdle/api"
	"girdle/dyad"
	"girdle/limbs"
	"girdle/model"
	"girdle/ratio"
	"girdle/span"
	"girdle/whole"
	"girdle/zono"
)

// The bounds as the document tells them.
const (
	limbBits = 32 * 512
	maxDim   = 16
	maxExp   = 1 << 16
	maxBits  = 4096
	maxGens  = 4096
)

// at is a number times 2 to the power of exp.
func at(n int64, exp int) api.Dyad {
	a, e := dyad.Make(whole.Of(n), exp)
	if e != api.OK {
		panic("a test's number is beyond the bounds")
	}
	return a
}

// point is a number alone.
func point(n int64, exp int) api.Span { return span.Point(at(n, exp)) }

// dyads is whole numbers.
func dyads(list ...int64) []api.Dyad {
	out := []api.Dyad{}
	for _, n := range list {
		out = append(out, at(n, 0))
	}
	return out
}

// points is whole numbers, each alone.
func points(list ...int64) []api.Span {
	out := []api.Span{}
	for _, n := range list {
		out = append(out, point(n, 0))
	}
	return out
}

// rats is whole numbers as ratios.
func rats(list ...int64) []api.Rat {
	out := []api.Rat{}
	for _, n := range list {
		out = append(out, ratio.Of(n, 1))
	}
	return out
}

// natOf is a number of math/big.
func natOf(a api.Nat) *big.Int {
	n := new(big.Int)
	for i := len(a) - 1; i >= 0; i-- {
		n.Or(n.Lsh(n, 32), big.NewInt(int64(a[i])))
	}
	return n
}

// intOf is a whole number of math/big.
func intOf(a api.Int) *big.Int {
	n := natOf(a.Size)
	if a.Minus {
		n.Neg(n)
	}
	return n
}

// exact is a number as a ratio of math/big.
func exact(a api.Dyad) *big.Rat {
	n := intOf(a.Man)
	if a.Exp >= 0 {
		return new(big.Rat).SetInt(n.Lsh(n, uint(a.Exp)))
	}
	return new(big.Rat).SetFrac(n, new(big.Int).Lsh(big.NewInt(1), uint(-a.Exp)))
}

// ratioOf is a ratio of math/big.
func ratioOf(a api.Rat) *big.Rat { return new(big.Rat).SetFrac(intOf(a.Num), natOf(a.Den)) }

// plus, minus, times and size are of math/big, in new memory.
func plus(a, b *big.Rat) *big.Rat  { return new(big.Rat).Add(a, b) }
func minus(a, b *big.Rat) *big.Rat { return new(big.Rat).Sub(a, b) }
func times(a, b *big.Rat) *big.Rat { return new(big.Rat).Mul(a, b) }
func size(a *big.Rat) *big.Rat     { return new(big.Rat).Abs(a) }

// part is 2 to the power of -bits.
func part(bits int) *big.Rat {
	if bits < 0 {
		return new(big.Rat).SetInt(new(big.Int).Lsh(big.NewInt(1), uint(-bits)))
	}
	return new(big.Rat).SetFrac(big.NewInt(1), new(big.Int).Lsh(big.NewInt(1), uint(bits)))
}

// truth is a set in exact numbers: its lists, as layer 16 tells of them.
type truth struct {
	center []*big.Rat
	gens   [][]*big.Rat
	round  []*big.Rat
}

// exactList is numbers of math/big.
func exactList(list []api.Dyad) []*big.Rat {
	out := make([]*big.Rat, len(list))
	for i, x := range list {
		out[i] = exact(x)
	}
	return out
}

// truthOf is a set in exact numbers.
func truthOf(z zono.Zono) truth {
	s := truth{center: exactList(z.Center), round: exactList(z.Round)}
	for _, way := range z.Gens {
		s.gens = append(s.gens, exactList(way))
	}
	return s
}

// ratioList is ratios of math/big.
func ratioList(list []api.Rat) []*big.Rat {
	out := make([]*big.Rat, len(list))
	for i, x := range list {
		out[i] = ratioOf(x)
	}
	return out
}

// truthOfModel is a set of ratios in exact numbers.
func truthOfModel(z model.Zono) truth {
	s := truth{center: ratioList(z.Center), round: zeros(len(z.Center))}
	for _, way := range z.Gens {
		s.gens = append(s.gens, ratioList(way))
	}
	return s
}

// zeros is so many times nothing.
func zeros(n int) []*big.Rat {
	list := make([]*big.Rat, n)
	for i := range list {
		list[i] = new(big.Rat)
	}
	return list
}

// inner is lists times each other.
func inner(a, b []*big.Rat) *big.Rat {
	sum := new(big.Rat)
	for i := range a {
		sum.Add(sum, times(a[i], b[i]))
	}
	return sum
}

// support is how far a set goes in a direction.
func (s truth) support(dir []*big.Rat) *big.Rat {
	sum := inner(dir, s.center)
	for _, way := range s.gens {
		sum.Add(sum, size(inner(dir, way)))
	}
	for i, x := range s.round {
		sum.Add(sum, times(size(dir[i]), x))
	}
	return sum
}

// reach is how great the numbers of a set are, place by place.
func (s truth) reach() []*big.Rat {
	list := zeros(len(s.center))
	for i := range list {
		list[i] = plus(size(s.center[i]), s.round[i])
		for _, way := range s.gens {
			list[i].Add(list[i], size(way[i]))
		}
	}
	return list
}

// image is what a table makes of a set: its sizes are ways then, each along its own place.
func (s truth) image(a [][]*big.Rat) truth {
	on := func(x []*big.Rat) []*big.Rat {
		out := make([]*big.Rat, len(a))
		for i, row := range a {
			out[i] = inner(row, x)
		}
		return out
	}
	made := truth{center: on(s.center), round: zeros(len(a))}
	for _, way := range s.gens {
		made.gens = append(made.gens, on(way))
	}
	for j, x := range s.round {
		way := zeros(len(s.round))
		way[j] = x
		made.gens = append(made.gens, on(way))
	}
	return made
}

// boxed is an image of as many ways as there were: what came of sizes are sizes again, place by place.
func (s truth) boxed(ways int) truth {
	b := truth{center: s.center, gens: s.gens[:ways], round: zeros(len(s.round))}
	for _, way := range s.gens[ways:] {
		for i, x := range way {
			b.round[i].Add(b.round[i], size(x))
		}
	}
	return b
}

// mixer makes numbers that look like no others, the same in every run.
type mixer uint64

// next is a number below n.
func (m *mixer) next(n int) int {
	*m = *m*6364136223846793005 + 1442695040888963407
	return int(uint64(*m)>>33) % n
}

// dyad is a number; now and then nothing.
func (m *mixer) dyad() api.Dyad {
	if m.next(8) == 0 {
		return api.Dyad{}
	}
	return at(int64(m.next(1<<30)-1<<29), m.next(30)-40)
}

// dyads is so many numbers.
func (m *mixer) dyads(n int) []api.Dyad {
	list := make([]api.Dyad, n)
	for i := range list {
		list[i] = m.dyad()
	}
	return list
}

// rats is so many ratios.
func (m *mixer) rats(n int) []api.Rat {
	list := make([]api.Rat, n)
	for i := range list {
		list[i] = ratio.Of(int64(m.next(1<<20)-1<<19), int64(m.next(1<<12)+1))
	}
	return list
}

// set is a set of so many places and ways, with sizes.
func (m *mixer) set(n, ways int) zono.Zono {
	z := zono.Zono{Center: m.dyads(n), Round: m.dyads(n)}
	for range ways {
		z.Gens = append(z.Gens, m.dyads(n))
	}
	for i, x := range z.Round {
		z.Round[i] = dyad.Abs(x)
	}
	return z
}

// directions is some directions of so many places: along each, and others.
func (m *mixer) directions(n int) [][]*big.Rat {
	var list [][]*big.Rat
	for i := range n {
		for _, sign := range []int64{1, -1} {
			dir := zeros(n)
			dir[i].SetInt64(sign)
			list = append(list, dir)
		}
	}
	for range 6 {
		dir := zeros(n)
		for i := range dir {
			dir[i].SetFrac64(int64(m.next(17)-8), 4)
		}
		list = append(list, dir)
	}
	return list
}

// norm is how much of a list, place by place, a direction takes at most.
func norm(dir, list []*big.Rat) *big.Rat {
	sum := new(big.Rat)
	for i, x := range list {
		sum.Add(sum, times(size(dir[i]), x))
	}
	return sum
}

// within tells whether a set goes in each direction as far as another one, and no farther than that and so much of what is told place by place.
func within(t *testing.T, what string, dirs [][]*big.Rat, got zono.Zono, want func(dir []*big.Rat) *big.Rat, slack []*big.Rat) {
	t.Helper()
	made := truthOf(got)
	for _, dir := range dirs {
		far, least := made.support(dir), want(dir)
		if far.Cmp(least) < 0 {
			t.Fatalf("%s: it goes less far by %s", what, minus(least, far).FloatString(30))
		}
		if over := minus(far, least); over.Cmp(norm(dir, slack)) > 0 {
			t.Fatalf("%s: it goes farther by %s, not by at most %s", what, over.FloatString(30), norm(dir, slack).FloatString(30))
		}
	}
}

// scaled is a list times a number.
func scaled(list []*big.Rat, by *big.Rat) []*big.Rat {
	out := make([]*big.Rat, len(list))
	for i, x := range list {
		out[i] = times(x, by)
	}
	return out
}

// may tells whether a set may be, of so many places and ways, with an error that is told.
func may(t *testing.T, what string, z zono.Zono, e api.Errno, n, ways int) {
	t.Helper()
	if e != api.OK || len(z.Gens) != ways || zono.Check(z, n) != api.OK {
		t.Fatalf("%s: error %d, %d ways, not %d, Check's error %d", what, e, len(z.Gens), ways, zono.Check(z, n))
	}
}

// none tells whether an error is beside nothing.
func none(t *testing.T, what string, z zono.Zono, e, want api.Errno) {
	t.Helper()
	if e != want || len(z.Center)+len(z.Gens)+len(z.Round) > 0 {
		t.Errorf("%s: error %d, not %d, beside %d places, %d ways", what, e, want, len(z.Center), len(z.Gens))
	}
}

// same tells whether two lists are the same, number by number.
func same(a, b []api.Dyad) bool {
	if len(a) != len(b) {
		return false
	}
	for i, x := range a {
		if dyad.Check(x) != api.OK || dyad.Compare(x, b[i]) != 0 {
			return false
		}
	}
	return true
}

// bitsOf is how many bits a number has.
func bitsOf(a api.Dyad) int { return limbs.Bits(a.Man.Size) }

// upTo tells whether a number is the least one of so many bits that isn't below what is true.
func upTo(t *testing.T, what string, got api.Dyad, e api.Errno, want *big.Rat, bits int) {
	t.Helper()
	if e != api.OK || dyad.Check(got) != api.OK || bitsOf(got) > bits {
		t.Fatalf("%s: error %d, %d bits", what, e, bitsOf(got))
	}
	last := part(bits - 1 - got.Exp - bitsOf(got))
	if over := minus(exact(got), want); over.Sign() < 0 || over.Sign() > 0 && over.Cmp(last) >= 0 {
		t.Fatalf("%s: it is %s, not %s", what, exact(got).FloatString(30), want.FloatString(30))
	}
}
