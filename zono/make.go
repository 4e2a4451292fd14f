package zono

import (
	"slices"

	"girdle/api"
	"girdle/dyad"
	"girdle/span"
)

// Image: no less than what a table of spans makes of a set.
func Image(a [][]api.Span, z Zono, bits int) (Zono, api.Errno) {
	n := len(z.Center)
	if !shaped(z, n) || slices.ContainsFunc(a, func(row []api.Span) bool { return len(row) != n }) {
		return Zono{}, api.ErrShape
	}
	w := work{bits: bits}
	image, reach := blank(len(a), len(z.Gens)), w.reaches(z)
	for i, row := range a {
		mid, off := w.row(row, z, reach)
		image.Center[i] = w.down(&off, w.inner(mid, z.Center))
		for k, way := range z.Gens {
			image.Gens[k][i] = w.down(&off, w.inner(mid, way))
		}
		image.Round[i] = w.up(off)
	}
	return w.done(image)
}

// Add: no less than all of one and all of the other together.
func Add(a, b Zono, bits int) (Zono, api.Errno) {
	n := len(a.Center)
	switch {
	case len(a.Gens)+len(b.Gens) > MaxGens:
		return Zono{}, api.ErrOrder
	case !shaped(a, n) || !shaped(b, n):
		return Zono{}, api.ErrShape
	}
	w := work{bits: bits}
	both := blank(n, 0)
	for i := range n {
		off := w.plus(a.Round[i], b.Round[i])
		both.Center[i] = w.down(&off, w.plus(a.Center[i], b.Center[i]))
		both.Round[i] = w.up(off)
	}
	both.Gens = slices.Concat(copiedLists(a.Gens), copiedLists(b.Gens))
	return w.done(both)
}

// Wider: a set, each place by a size more.
func Wider(z Zono, by api.Dyad, bits int) (Zono, api.Errno) {
	if !shaped(z, len(z.Center)) {
		return Zono{}, api.ErrShape
	}
	w := work{bits: bits}
	wider := Zono{Center: copiedList(z.Center), Gens: copiedLists(z.Gens), Round: make([]api.Dyad, len(z.Round))}
	for i, size := range z.Round {
		wider.Round[i] = w.up(w.plus(size, dyad.Abs(by)))
	}
	return w.done(wider)
}

// Times: no less than a set, all of it times a number of a span.
func Times(z Zono, by api.Span, bits int) (Zono, api.Errno) {
	n := len(z.Center)
	if !shaped(z, n) {
		return Zono{}, api.ErrShape
	}
	w := work{bits: bits}
	mid, half := w.halves(by)
	product := blank(n, len(z.Gens))
	for i := range n {
		off := w.times(span.Size(by), z.Round[i])
		product.Center[i] = w.down(&off, w.times(mid, z.Center[i]))
		for k, way := range z.Gens {
			product.Gens[k][i] = w.down(&off, w.times(farther(by), way[i]))
		}
		product.Round[i] = off
	}
	w.smear(&product, z, half, span.Size(by))
	for i, off := range product.Round {
		product.Round[i] = w.up(off)
	}
	return w.done(product)
}

// smear adds to a set the middle of another one, times any number whose size is no more than half. That is a way: place by place for itself it would be more. It goes to the sizes where they are no more (of a middle along one place), where it is no more than what is rounded anyway, and where there is no room for a way.
func (w *work) smear(product *Zono, z Zono, half, size api.Dyad) {
	alone := len(z.Gens) >= MaxGens || w.tiny(half, size) || severalPlaces(z.Center) < 2
	way := make([]api.Dyad, len(z.Center))
	for i, x := range z.Center {
		off := &product.Round[i]
		if alone {
			*off = w.plus(*off, w.times(half, dyad.Abs(x)))
		} else {
			way[i] = w.down(off, w.times(half, x))
		}
	}
	if !alone {
		product.Gens = append(product.Gens, way)
	}
}

// tiny: is a number no more of a size than what so many bits can tell?
func (w *work) tiny(half, size api.Dyad) bool {
	unit, e := dyad.Make(api.Int{Size: api.Nat{1}}, w.bits)
	if e != api.OK {
		return false
	}
	often, e := dyad.Mul(half, unit)
	return e == api.OK && !dyad.Less(size, often)
}

// severalPlaces is at how many places a list isn't nothing.
func severalPlaces(list []api.Dyad) int {
	count := 0
	for _, x := range list {
		if dyad.Sign(x) != 0 {
			count++
		}
	}
	return count
}

// farther is the end of a span that is farther from nothing.
func farther(a api.Span) api.Dyad {
	if dyad.Less(dyad.Abs(a.Hi), dyad.Abs(a.Lo)) {
		return a.Lo
	}
	return a.Hi
}

// copiedList is numbers in new memory.
func copiedList(list []api.Dyad) []api.Dyad {
	out := make([]api.Dyad, len(list))
	for i, x := range list {
		out[i] = api.Dyad{Man: api.Int{Minus: x.Man.Minus, Size: slices.Clone(x.Man.Size)}, Exp: x.Exp}
	}
	return out
}

// copiedLists is lists in new memory.
func copiedLists(lists [][]api.Dyad) [][]api.Dyad {
	out := make([][]api.Dyad, len(lists))
	for k, list := range lists {
		out[k] = copiedList(list)
	}
	return out
}
