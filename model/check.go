package model

import (
	"cmp"

	"girdle/api"
	"girdle/mat"
	"girdle/ratio"
	"girdle/vec"
)

// Check: may a model be?
func Check(m Model) api.Errno {
	found := [...]api.Errno{
		checkCounts(m),
		mat.Check(m.A, m.Dim, m.Dim),
		mat.Check(m.B, m.Dim, m.Inputs),
		vec.Check(m.C, m.Dim),
		checkSet(m.Start, m.Dim),
		checkSet(m.Input, m.Inputs),
		checkClaims(m.Claims, m.Dim),
		checkPace(m),
	}
	if e := cmp.Or(found[:]...); e != api.OK {
		return e
	}
	// Only numbers that may be are held against each other: their products are of some size.
	if e := checkTimes(m); e != api.OK {
		return e
	}
	_, e := Steps(m)
	return e
}

// checkCounts tells whether there are states, and not too many ways or claims. (The layers below tell of too many states and inputs.)
func checkCounts(m Model) api.Errno {
	switch {
	case m.Dim < 1:
		return api.ErrShape
	case len(m.Start.Gens) > MaxGens || len(m.Input.Gens) > MaxGens || len(m.Claims) > MaxClaims:
		return api.ErrLong
	}
	return api.OK
}

// checkSet tells whether a set may be, of so many places.
func checkSet(z Zono, n int) api.Errno {
	if e := vec.Check(z.Center, n); e != api.OK {
		return e
	}
	for _, way := range z.Gens {
		if e := vec.Check(way, n); e != api.OK {
			return e
		}
	}
	return api.OK
}

// checkClaims tells whether claims' directions, of so many places, and numbers may be.
func checkClaims(claims []Claim, n int) api.Errno {
	for _, c := range claims {
		if e := cmp.Or(vec.Check(c.Dir, n), checkNumbers(c.numbers())); e != api.OK {
			return e
		}
	}
	return api.OK
}

// checkPace tells whether a model's horizon and step may be.
func checkPace(m Model) api.Errno {
	if e := checkNumbers(m.pace()); e != api.OK {
		return e
	}
	if ratio.Sign(m.Horizon) <= 0 || ratio.Sign(m.Step) <= 0 {
		return api.ErrHorizon
	}
	return api.OK
}

// checkNumbers tells whether numbers may be.
func checkNumbers(list []api.Rat) api.Errno { return vec.Check(list, len(list)) }

// checkTimes tells whether claims' times are within the horizon, and in order.
func checkTimes(m Model) api.Errno {
	for _, c := range m.Claims {
		if ratio.Sign(c.From) < 0 || ratio.Sign(c.To) < 0 || !reaches(c.To, 1, c.From) || !reaches(m.Horizon, 1, c.To) {
			return api.ErrHorizon
		}
	}
	return api.OK
}
