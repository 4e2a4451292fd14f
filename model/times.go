package model

import (
	"cmp"
	"sort"

	"girdle/api"
)

// Steps: how many steps there are, the last one perhaps beyond the horizon.
func Steps(m Model) (int, api.Errno) {
	if e := checkPace(m); e != api.OK {
		return 0, e
	}
	n := 1 + sort.Search(MaxSteps, func(i int) bool { return reaches(m.Step, i+1, m.Horizon) })
	if n > MaxSteps {
		return 0, api.ErrSteps
	}
	return n, api.OK
}

// reaches tells whether a time, so often, is no less than another one; both are from 0 on. Layer 4's calls would refuse times whose products have no room, but no promise excepts these.
func reaches(step api.Rat, often int, time api.Rat) bool {
	far := product(product(step.Num.Size, time.Den), api.Nat{uint32(often)})
	return compare(far, product(time.Num.Size, step.Den)) >= 0
}

// product is two numbers times each other, without a bound.
func product(a, b api.Nat) api.Nat {
	out := make(api.Nat, len(a)+len(b))
	for i, x := range a {
		var carry uint64
		for j, y := range b {
			// The greatest digit squared and two such digits more are just 2^64 - 1.
			carry += uint64(x)*uint64(y) + uint64(out[i+j])
			out[i+j] = uint32(carry)
			carry >>= 32
		}
		out[i+len(b)] = uint32(carry)
	}
	for len(out) > 0 && out[len(out)-1] == 0 {
		out = out[:len(out)-1]
	}
	return out
}

// compare: -1, 0 or 1.
func compare(a, b api.Nat) int {
	if len(a) != len(b) {
		return cmp.Compare(len(a), len(b))
	}
	for i := len(a) - 1; i >= 0; i-- {
		if a[i] != b[i] {
			return cmp.Compare(a[i], b[i])
		}
	}
	return 0
}
