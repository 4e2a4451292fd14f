package box_test

import (
	"math"
	"reflect"
	"slices"
	"testing"

	"girdle/api"
	"girdle/box"
	"girdle/dyad"
	"girdle/whole"
)

// P1

// wrongNumbers is what can't be numbers.
func wrongNumbers() []api.Dyad {
	over := api.Dyad{Man: api.Int{Size: slices.Repeat(api.Nat{math.MaxUint32}, 700)}, Exp: 3}
	return []api.Dyad{{}, {Exp: math.MaxInt}, {Man: whole.Of(4), Exp: math.MinInt}, {Man: whole.Of(-7), Exp: math.MaxInt}, {Man: api.Int{Size: api.Nat{0}}, Exp: 5}, {Man: api.Int{Minus: true, Size: api.Nat{9, 0}}}, over, dyad.Neg(over)}
}

// wrongSpans is what can't be spans.
func wrongSpans() []api.Span {
	var spans []api.Span
	for _, lo := range wrongNumbers() {
		for _, hi := range wrongNumbers() {
			spans = append(spans, api.Span{Lo: lo, Hi: hi})
		}
	}
	return spans
}

func TestNoCallPanics(t *testing.T) {
	boxes := []box.Box{nil, {}, parsed("1..2"), parsed("-1..1 3..3"), wrongSpans(), {{Lo: at(-1, maxExp), Hi: at(1, maxExp)}, of(1, 1)}}
	for i, x := range wrongSpans() {
		boxes = append(boxes, box.Box{x, wrongSpans()[i*7%64]})
	}
	ratios := [][]api.Rat{nil, rats("1/3"), rats("1 -2"), {{}, {Num: whole.Of(6), Den: api.Nat{4}}}, {{Num: whole.Of(1), Den: api.Nat{0}}, {Num: api.Int{Minus: true, Size: api.Nat{0}}, Den: slices.Repeat(api.Nat{9}, 700)}}}
	for _, a := range boxes {
		box.Widest(a)
		for _, n := range []int{math.MinInt, -1, 0, 1, 2, maxDim, math.MaxInt} {
			box.Check(a, n)
		}
		for _, x := range ratios {
			box.Has(a, x)
		}
		for i, b := range boxes {
			box.Hull(a, b)
			box.Holds(a, b)
			for _, bits := range []int{math.MinInt, 0, 2, maxBits, math.MaxInt} {
				box.Support(a, b, bits)
				box.Wider(a, wrongNumbers()[:i%9], bits)
			}
			box.Wider(a, []api.Dyad{wrongNumbers()[i%8], wrongNumbers()[i/8%8]}, 40)
		}
	}
	for _, x := range ratios {
		for _, bits := range []int{math.MinInt, 0, 2, maxBits, math.MaxInt} {
			box.Of(x, bits)
		}
	}
}

// P2

// room is where a list's memory begins, and where it ends, its spare room too.
type room struct{ from, to uintptr }

// rooms is the memory of all lists within a value.
func rooms(v reflect.Value) []room {
	var list []room
	switch v.Kind() {
	case reflect.Struct:
		for i := range v.NumField() {
			list = append(list, rooms(v.Field(i))...)
		}
	case reflect.Slice:
		if size := uintptr(v.Cap()) * v.Type().Elem().Size(); size > 0 {
			list = append(list, room{v.Pointer(), v.Pointer() + size})
		}
		for i := range v.Len() {
			list = append(list, rooms(v.Index(i))...)
		}
	}
	return list
}

// shared tells whether two of some lists have memory in common.
func shared(list []room) bool {
	slices.SortFunc(list, func(a, b room) int { return int(a.from) - int(b.from) })
	for i := range list[1:] {
		if list[i].to > list[i+1].from {
			return true
		}
	}
	return false
}

// roomy is a copy of a value in which every list has spare room, where something stands.
func roomy(v reflect.Value) reflect.Value {
	out := reflect.New(v.Type()).Elem()
	switch v.Kind() {
	case reflect.Struct:
		for i := range v.NumField() {
			out.Field(i).Set(roomy(v.Field(i)))
		}
	case reflect.Slice:
		out.Set(reflect.MakeSlice(v.Type(), v.Len(), v.Len()+2))
		for i := range v.Len() {
			out.Index(i).Set(roomy(v.Index(i)))
		}
		if v.Len() > 0 {
			spare := out.Slice(0, v.Len()+2)
			spare.Index(v.Len()).Set(roomy(v.Index(0)))
			spare.Index(v.Len() + 1).Set(roomy(v.Index(v.Len() - 1)))
		}
	default:
		out.Set(v)
	}
	return out
}

// contents is all that stands in a value, in its lists' spare room too.
func contents(v reflect.Value) []int64 {
	var list []int64
	switch v.Kind() {
	case reflect.Struct:
		for i := range v.NumField() {
			list = append(list, contents(v.Field(i))...)
		}
	case reflect.Slice:
		list = append(list, int64(v.Len()), int64(v.Cap()))
		full := v.Slice3(0, v.Cap(), v.Cap())
		for i := range full.Len() {
			list = append(list, contents(full.Index(i))...)
		}
	case reflect.Bool:
		list = append(list, 0)
		if v.Bool() {
			list[0] = 1
		}
	case reflect.Int:
		list = append(list, v.Int())
	case reflect.Uint32:
		list = append(list, int64(v.Uint()))
	default:
		panic("a value of another kind")
	}
	return list
}

// handed is what calls are given.
type handed struct {
	A, B box.Box
	By   []api.Dyad
	X    []api.Rat
}

// result is what they answer.
type result struct {
	B box.Box
	D api.Dyad
}

// calls is all of them.
func calls() map[string]func(h handed) result {
	boxes := func(b box.Box, e api.Errno) result { return result{B: b} }
	numbers := func(d api.Dyad, e api.Errno) result { return result{D: d} }
	return map[string]func(h handed) result{
		"Of":               func(h handed) result { return boxes(box.Of(h.X, 40)) },
		"Hull":             func(h handed) result { return boxes(box.Hull(h.A, h.B)) },
		"Hull of one":      func(h handed) result { return boxes(box.Hull(h.A, h.A)) },
		"Wider":            func(h handed) result { return boxes(box.Wider(h.A, h.By, 40)) },
		"Wider by nothing": func(h handed) result { return boxes(box.Wider(h.A, make([]api.Dyad, 3), maxBits)) },
		"Support":          func(h handed) result { return numbers(box.Support(h.A, h.B, 40)) },
		"Support, far": func(h handed) result {
			return numbers(box.Support(h.A[:1], box.Box{{Lo: at(1, 0), Hi: at(1, 0)}}, maxBits))
		},
		"Widest":        func(h handed) result { return numbers(box.Widest(h.A)) },
		"Widest of one": func(h handed) result { return numbers(box.Widest(box.Box{{Hi: h.A[0].Hi}})) },
		"Holds, Has, Check": func(h handed) result {
			box.Holds(h.A, h.B)
			box.Has(h.A, h.X)
			box.Check(h.A, 3)
			return result{}
		},
	}
}

func TestMemory(t *testing.T) {
	given := handed{A: mixed(3, 8), B: mixed(3, 9), By: []api.Dyad{at(3, -1), at(-5, 2), at(12345678901, -7)}, X: rats("1/3 -123456789012345678/7 5")}
	for name, call := range calls() {
		h := roomy(reflect.ValueOf(given)).Interface().(handed)
		were := contents(reflect.ValueOf(h))
		first, second := call(h), call(h)
		if shared(slices.Concat(rooms(reflect.ValueOf(h)), rooms(reflect.ValueOf(first)), rooms(reflect.ValueOf(second)))) {
			t.Errorf("%s: memory is shared", name)
		}
		if !slices.Equal(contents(reflect.ValueOf(h)), were) {
			t.Errorf("%s: what was handed in is changed", name)
		}
		if text(first.B) != text(second.B) || dyad.Compare(first.D, second.D) != 0 {
			t.Errorf("%s: answers unlike each other", name)
		}
	}
}
