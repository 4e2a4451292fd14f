package zono

import (
	"cmp"

	"girdle/api"
	"girdle/box"
	"girdle/dyad"
	"girdle/span"
)

// Support: no less than a direction's product with any of a set; the direction is any within spans.
func Support(z Zono, dir []api.Span, bits int) (api.Dyad, api.Errno) {
	if n := len(z.Center); !shaped(z, n) || len(dir) != n {
		return api.Dyad{}, api.ErrShape
	}
	w := work{bits: bits}
	mid, far := w.row(dir, z, w.reaches(z))
	for _, way := range z.Gens {
		far = w.plus(far, dyad.Abs(w.inner(mid, way)))
	}
	far = w.up(w.plus(far, w.inner(mid, z.Center)))
	return far, w.e
}

// Box: the box of a set, no less.
func Box(z Zono, bits int) (box.Box, api.Errno) {
	if !shaped(z, len(z.Center)) {
		return nil, api.ErrShape
	}
	w := work{bits: bits}
	held := make(box.Box, len(z.Center))
	for i, mid := range z.Center {
		far := w.spread(z, i)
		place, e := span.Round(api.Span{Lo: w.less(mid, far), Hi: w.plus(mid, far)}, bits)
		w.e, held[i] = cmp.Or(w.e, e), place
	}
	if w.e != api.OK {
		return nil, w.e
	}
	return held, api.OK
}

// Reach: no less than the size of any number of any of a set.
func Reach(z Zono, bits int) (api.Dyad, api.Errno) {
	if !shaped(z, len(z.Center)) {
		return api.Dyad{}, api.ErrShape
	}
	w := work{bits: bits}
	var most api.Dyad
	for _, reach := range w.reaches(z) {
		most = dyad.Max(most, reach)
	}
	return w.up(most), w.e
}

// row is the middles of a row of spans, and how much more of a set comes to by what isn't told of a middle alone: by the set's sizes, and by how far the spans go from their middles.
func (w *work) row(a []api.Span, z Zono, reach []api.Dyad) ([]api.Dyad, api.Dyad) {
	mids := make([]api.Dyad, len(a))
	var off api.Dyad
	for j, x := range a {
		mid, half := w.halves(x)
		off = w.plus(off, w.times(dyad.Abs(mid), z.Round[j]))
		off = w.plus(off, w.times(half, reach[j]))
		mids[j] = mid
	}
	return mids, off
}

// reaches is, place by place, how great a number of a set is at most.
func (w *work) reaches(z Zono) []api.Dyad {
	list := make([]api.Dyad, len(z.Center))
	for i, mid := range z.Center {
		list[i] = w.plus(dyad.Abs(mid), w.spread(z, i))
	}
	return list
}

// spread is how far a set goes from its middle at a place.
func (w *work) spread(z Zono, at int) api.Dyad {
	far := z.Round[at]
	for _, way := range z.Gens {
		far = w.plus(far, dyad.Abs(way[at]))
	}
	return far
}
