package zono

import (
	"cmp"

	"girdle/api"
	"girdle/dyad"
	"girdle/span"
)

// work is one call's reckoning. It is exact up to the last step, where each number is rounded, so that nothing is lost where numbers are taken from each other.
type work struct {
	bits int
	// e is the first error; behind it all answers are nothing.
	e api.Errno
}

// kept is what was reckoned, if there was no error.
func (w *work) kept(x api.Dyad, e api.Errno) api.Dyad {
	w.e = cmp.Or(w.e, e)
	if w.e != api.OK {
		return api.Dyad{}
	}
	return x
}

// plus is both together. Nothing is left out: it and a great number have no room at one power of 2.
func (w *work) plus(a, b api.Dyad) api.Dyad {
	switch {
	case dyad.Sign(a) == 0:
		return b
	case dyad.Sign(b) == 0:
		return a
	case w.e != api.OK:
		return api.Dyad{}
	}
	return w.kept(dyad.Add(a, b))
}

// less is the first one less the second one.
func (w *work) less(a, b api.Dyad) api.Dyad { return w.plus(a, dyad.Neg(b)) }

// times is one times the other.
func (w *work) times(a, b api.Dyad) api.Dyad {
	if w.e != api.OK || dyad.Sign(a) == 0 || dyad.Sign(b) == 0 {
		return api.Dyad{}
	}
	return w.kept(dyad.Mul(a, b))
}

// inner is numbers times each other, and all together.
func (w *work) inner(a, b []api.Dyad) api.Dyad {
	var sum api.Dyad
	for i := range a {
		sum = w.plus(sum, w.times(a[i], b[i]))
	}
	return sum
}

// halves is the middle of a span, and how far it goes from there.
func (w *work) halves(a api.Span) (api.Dyad, api.Dyad) {
	mid := w.kept(span.Middle(a))
	return mid, w.less(a.Hi, mid)
}

// down is a number rounded; what was cut off goes to off.
func (w *work) down(off *api.Dyad, x api.Dyad) api.Dyad {
	near := w.kept(dyad.Round(x, w.bits, false))
	if near.Exp != x.Exp {
		*off = w.plus(*off, w.less(x, near))
	}
	return near
}

// near is a ratio rounded; how far off that may be goes to off.
func (w *work) near(off *api.Dyad, x api.Rat) api.Dyad {
	between, e := span.Near(x, w.bits)
	near := w.kept(between.Lo, e)
	*off = w.plus(*off, w.less(between.Hi, near))
	return near
}

// up is a size that is no less, of no more bits than are asked for.
func (w *work) up(size api.Dyad) api.Dyad { return w.kept(dyad.Round(size, w.bits, true)) }

// done is a set, if there was no error.
func (w *work) done(z Zono) (Zono, api.Errno) {
	if w.e != api.OK {
		return Zono{}, w.e
	}
	return z, api.OK
}
