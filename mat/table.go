package mat

import (
	"girdle/api"
	"girdle/vec"
)

// table is rows of anything.
type table[T any] [][]T

// columns is how many numbers the first row has; 0 without rows.
func (t table[T]) columns() int {
	if len(t) == 0 {
		return 0
	}
	return len(t[0])
}

// of tells whether each row has so many numbers.
func (t table[T]) of(columns int) bool {
	for _, row := range t {
		if len(row) != columns {
			return false
		}
	}
	return true
}

// even tells whether all rows are of one length.
func (t table[T]) even() bool { return t.of(t.columns()) }

// filled is so many things, held as layer 7 holds how many there are, each made by a function of its place.
func filled[T any](n int, thing func(i int) T) []T {
	list := make([]T, min(max(n, 0), vec.MaxDim))
	for i := range list {
		list[i] = thing(i)
	}
	return list
}

// reckoned is so many things, each reckoned by a function of its place; none, with the first error.
func reckoned[T any](n int, thing func(i int) (T, api.Errno)) ([]T, api.Errno) {
	list := make([]T, n)
	for i := range list {
		var e api.Errno
		if list[i], e = thing(i); e != api.OK {
			return nil, e
		}
	}
	return list, api.OK
}

// turned is rows as columns, of a table of even rows; its numbers are the same memory.
func turned[T any](a table[T]) table[T] {
	columns := make(table[T], a.columns())
	for j := range columns {
		columns[j] = make([]T, len(a))
		for i, row := range a {
			columns[j][i] = row[j]
		}
	}
	return columns
}

// rowwise is what a function makes of each row; ErrShape, if they are of unlike lengths.
func rowwise[T, U any](a table[T], do func(row []T) (U, api.Errno)) ([]U, api.Errno) {
	if !a.even() {
		return nil, api.ErrShape
	}
	return reckoned(len(a), func(i int) (U, api.Errno) { return do(a[i]) })
}

// pairwise is what a function makes of two tables, row by row; ErrShape, if they don't fit.
func pairwise[T, U, V any](a table[T], b table[U], do func(x []T, y []U) (V, api.Errno)) ([]V, api.Errno) {
	if len(a) != len(b) || !a.even() || !b.of(a.columns()) {
		return nil, api.ErrShape
	}
	return reckoned(len(a), func(i int) (V, api.Errno) { return do(a[i], b[i]) })
}

// image is what a function makes of each row and a list; ErrShape, if they don't fit.
func image[T any](a table[T], x []T, dot func(x, y []T) (T, api.Errno)) ([]T, api.Errno) {
	if !a.of(len(x)) {
		return nil, api.ErrShape
	}
	return reckoned(len(a), func(i int) (T, api.Errno) { return dot(a[i], x) })
}

// product is what a function makes of each row of one table and each column of the other one; ErrShape, if they don't fit.
func product[T any](a, b table[T], dot func(x, y []T) (T, api.Errno)) ([][]T, api.Errno) {
	if !a.of(len(b)) || !b.even() {
		return nil, api.ErrShape
	}
	columns := turned(b)
	return reckoned(len(a), func(i int) ([]T, api.Errno) {
		return reckoned(len(columns), func(j int) (T, api.Errno) { return dot(a[i], columns[j]) })
	})
}
