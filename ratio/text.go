package ratio

import (
	"strings"

	"girdle/api"
	"girdle/digits"
	"girdle/limbs"
	"girdle/whole"
)

// MaxPlaces is how many digits may stand behind a point.
const MaxPlaces = 1000

// Text: what stands above, and, if that isn't 1, behind a / what stands below.
func Text(a api.Rat) string {
	if limbs.Compare(a.Den, limbs.Of(1)) == 0 {
		return whole.Text(a.Num)
	}
	return whole.Text(a.Num) + "/" + digits.Text(a.Den)
}

// Parse: the ratio of a text: a whole number; one with digits behind a point; or two with a / between.
func Parse(s string) (api.Rat, api.Errno) {
	if above, below, ok := strings.Cut(s, "/"); ok {
		return parseRatio(above, below)
	}
	if ahead, behind, ok := strings.Cut(s, "."); ok {
		return parsePlaces(ahead, behind)
	}
	a, e := whole.Parse(s)
	return Whole(a), e
}

// parseRatio is the ratio of what stands on both sides of a /.
func parseRatio(above, below string) (api.Rat, api.Errno) {
	num, e := whole.Parse(above)
	if e != api.OK {
		return Zero(), e
	}
	den, e := digits.Parse(below)
	if e != api.OK {
		return Zero(), e
	}
	return Make(num, whole.Nat(den))
}

// parsePlaces is the ratio of what stands on both sides of a point.
func parsePlaces(ahead, behind string) (api.Rat, api.Errno) {
	if len(behind) > MaxPlaces {
		return Zero(), api.ErrLong
	}
	if _, e := whole.Parse(ahead); e != api.OK {
		return Zero(), e
	}
	if _, e := digits.Parse(behind); e != api.OK {
		return Zero(), e
	}
	// Read as one number, as of -0 the sign would be lost.
	num, e := whole.Parse(ahead + behind)
	if e != api.OK {
		return Zero(), e
	}
	den, e := digits.Ten(len(behind))
	if e != api.OK {
		return Zero(), e
	}
	return Make(num, whole.Nat(den))
}
