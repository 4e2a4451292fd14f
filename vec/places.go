package vec

import "girdle/api"

// placewise is what a function makes of each place; none, with the first error.
func placewise[T, U any](a []T, do func(x T) (U, api.Errno)) ([]U, api.Errno) {
	list := make([]U, len(a))
	for i, x := range a {
		var e api.Errno
		if list[i], e = do(x); e != api.OK {
			return nil, e
		}
	}
	return list, api.OK
}

// pairwise is what a function makes of two lists, place by place; ErrShape and none, if they are of unlike lengths; none, with the first error.
func pairwise[T, U, V any](a []T, b []U, do func(x T, y U) (V, api.Errno)) ([]V, api.Errno) {
	if len(a) != len(b) {
		return nil, api.ErrShape
	}
	list := make([]V, len(a))
	for i, x := range a {
		var e api.Errno
		if list[i], e = do(x, b[i]); e != api.OK {
			return nil, e
		}
	}
	return list, api.OK
}
