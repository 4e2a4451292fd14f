package span

import (
	"cmp"

	"girdle/api"
	"girdle/dyad"
)

// Hull: the least that holds both.
func Hull(a, b api.Span) api.Span {
	return api.Span{Lo: dyad.Min(a.Lo, b.Lo), Hi: dyad.Max(a.Hi, b.Hi)}
}

// Meet: what both hold; ErrMissing: nothing.
func Meet(a, b api.Span) (api.Span, api.Errno) {
	lo, hi := dyad.Max(a.Lo, b.Lo), dyad.Min(a.Hi, b.Hi)
	if dyad.Less(hi, lo) {
		return api.Span{}, api.ErrMissing
	}
	return api.Span{Lo: lo, Hi: hi}, api.OK
}

// Has: does it hold a number?
func Has(a api.Span, d api.Dyad) bool { return !dyad.Less(d, a.Lo) && !dyad.Less(a.Hi, d) }

// Holds: does it hold another one, whole?
func Holds(a, b api.Span) bool { return !dyad.Less(b.Lo, a.Lo) && !dyad.Less(a.Hi, b.Hi) }

// HasRatio: does it hold a ratio? ErrLimbs: there is no room to tell.
func HasRatio(a api.Span, r api.Rat) (bool, api.Errno) {
	lo, e := dyad.Cmp(a.Lo, r)
	hi, f := dyad.Cmp(a.Hi, r)
	if e = cmp.Or(e, f); e != api.OK {
		return false, e
	}
	return lo <= 0 && hi >= 0, api.OK
}
