package zono_test

import (
	"math"
	"reflect"
	"slices"
	"testing"

	"girdle/api"
	"girdle/box"
	"girdle/dyad"
	"girdle/model"
	"girdle/ratio"
	"girdle/span"
	"girdle/whole"
	"girdle/zono"
)

// P1

// wrongNumbers is what can't be numbers.
func wrongNumbers() []api.Dyad {
	over := api.Dyad{Man: api.Int{Size: slices.Repeat(api.Nat{math.MaxUint32}, 700)}, Exp: 3}
	return []api.Dyad{{}, {Exp: math.MaxInt}, {Man: whole.Of(4), Exp: math.MinInt}, {Man: whole.Of(-7), Exp: math.MaxInt}, {Man: api.Int{Size: api.Nat{0}}, Exp: 5}, {Man: api.Int{Minus: true, Size: api.Nat{9, 0}}}, over, dyad.Neg(over), at(1, maxExp), at(-3, -maxExp)}
}

// wrongSets is what can't be sets, and what can.
func wrongSets() []zono.Zono {
	list := []zono.Zono{{}, {Center: dyads(1)}, {Round: dyads(-1)}, {Gens: [][]api.Dyad{nil, dyads(1, 2)}}, zono.Point(2), {Center: wrongNumbers(), Gens: [][]api.Dyad{wrongNumbers(), wrongNumbers()}, Round: wrongNumbers()}}
	numbers := wrongNumbers()
	for i, x := range numbers {
		for j, y := range numbers {
			z := numbers[(i*3+j*7)%len(numbers)]
			list = append(list, zono.Zono{Center: []api.Dyad{x, y}, Gens: [][]api.Dyad{{y, z}, {z, x}}, Round: []api.Dyad{z, y}})
		}
	}
	return list
}

// wrongSpans is what can't be spans.
func wrongSpans() []api.Span {
	var list []api.Span
	numbers := wrongNumbers()
	for i, lo := range numbers {
		list = append(list, api.Span{Lo: lo, Hi: numbers[i*7%10]}, api.Span{Lo: lo, Hi: numbers[(i*3+4)%10]})
	}
	return list
}

func TestNoCallPanics(t *testing.T) {
	counts := []int{math.MinInt, 0, 2, 60, maxBits, math.MaxInt}
	spans := wrongSpans()
	for i, z := range wrongSets() {
		for _, n := range []int{math.MinInt, -1, 0, 1, 2, maxDim, math.MaxInt} {
			zono.Check(z, n)
		}
		x, y := spans[i%20], spans[i*7%20]
		for _, bits := range counts {
			zono.Box(z, bits)
			zono.Reach(z, bits)
			zono.Wider(z, x.Lo, bits)
			zono.Times(z, x, bits)
			zono.Times(z, y, bits)
			zono.Add(z, wrongSets()[i*11%100], bits)
			for _, row := range [][]api.Span{nil, {x}, {x, y}, {y, point(1, 0)}, spans[:10]} {
				zono.Support(z, row, bits)
				zono.Image([][]api.Span{row, row}, z, bits)
				zono.Image([][]api.Span{row, {x, y}}, z, bits)
			}
		}
	}
	for _, x := range []api.Rat{{}, {Num: whole.Of(1)}, {Num: whole.Of(6), Den: api.Nat{4}}, {Num: whole.Of(1), Den: api.Nat{0}}, {Num: api.Int{Minus: true, Size: api.Nat{0}}, Den: slices.Repeat(api.Nat{9}, 700)}} {
		for _, bits := range counts {
			zono.Of(model.Zono{Center: []api.Rat{x}, Gens: [][]api.Rat{{x}, nil}}, bits)
			zono.Of(model.Zono{Center: []api.Rat{x, ratio.Of(1, 3)}, Gens: [][]api.Rat{{x, x}}}, bits)
			zono.Of(model.Zono{Gens: [][]api.Rat{{x}}}, bits)
		}
	}
}

// P2

// room is where a list's memory begins, and where it ends, its spare room too.
type room struct{ from, to uintptr }

// rooms is the memory of all lists within a value.
func rooms(v reflect.Value) []room {
	var list []room
	switch v.Kind() {
	case reflect.Struct:
		for i := range v.NumField() {
			list = append(list, rooms(v.Field(i))...)
		}
	case reflect.Slice:
		if size := uintptr(v.Cap()) * v.Type().Elem().Size(); size > 0 {
			list = append(list, room{v.Pointer(), v.Pointer() + size})
		}
		for i := range v.Len() {
			list = append(list, rooms(v.Index(i))...)
		}
	}
	return list
}

// shared tells whether two of some lists have memory in common.
func shared(list []room) bool {
	slices.SortFunc(list, func(a, b room) int { return int(a.from) - int(b.from) })
	for i := range list[1:] {
		if list[i].to > list[i+1].from {
			return true
		}
	}
	return false
}

// roomy is a copy of a value in which every list has spare room, where something stands.
func roomy(v reflect.Value) reflect.Value {
	out := reflect.New(v.Type()).Elem()
	switch v.Kind() {
	case reflect.Struct:
		for i := range v.NumField() {
			out.Field(i).Set(roomy(v.Field(i)))
		}
	case reflect.Slice:
		out.Set(reflect.MakeSlice(v.Type(), v.Len(), v.Len()+2))
		for i := range v.Len() {
			out.Index(i).Set(roomy(v.Index(i)))
		}
		if v.Len() > 0 {
			spare := out.Slice(0, v.Len()+2)
			spare.Index(v.Len()).Set(roomy(v.Index(0)))
			spare.Index(v.Len() + 1).Set(roomy(v.Index(v.Len() - 1)))
		}
	default:
		out.Set(v)
	}
	return out
}

// contents is all that stands in a value, in its lists' spare room too.
func contents(v reflect.Value) []int64 {
	var list []int64
	switch v.Kind() {
	case reflect.Struct:
		for i := range v.NumField() {
			list = append(list, contents(v.Field(i))...)
		}
	case reflect.Slice:
		list = append(list, int64(v.Len()), int64(v.Cap()))
		full := v.Slice3(0, v.Cap(), v.Cap())
		for i := range full.Len() {
			list = append(list, contents(full.Index(i))...)
		}
	case reflect.Bool:
		list = append(list, 0)
		if v.Bool() {
			list[0] = 1
		}
	case reflect.Int:
		list = append(list, v.Int())
	case reflect.Uint32:
		list = append(list, int64(v.Uint()))
	default:
		panic("a value of another kind")
	}
	return list
}

// handed is what calls are given.
type handed struct {
	M    model.Zono
	Z, Y zono.Zono
	A    [][]api.Span
	By   api.Span
	D    api.Dyad
}

// result is what they answer.
type result struct {
	Z zono.Zono
	B box.Box
	D api.Dyad
}

// calls is all of them.
func calls() map[string]func(h handed) result {
	sets := func(z zono.Zono, e api.Errno) result { return result{Z: z} }
	numbers := func(d api.Dyad, e api.Errno) result { return result{D: d} }
	boxes := func(b box.Box, e api.Errno) result { return result{B: b} }
	alone := func(h handed) zono.Zono {
		return zono.Zono{Center: make([]api.Dyad, 3), Gens: h.Z.Gens[:1], Round: make([]api.Dyad, 3)}
	}
	return map[string]func(h handed) result{
		"Point":            func(h handed) result { return result{Z: zono.Point(3)} },
		"Of":               func(h handed) result { return sets(zono.Of(h.M, 40)) },
		"Of, refused":      func(h handed) result { return sets(zono.Of(h.M, 1)) },
		"Image":            func(h handed) result { return sets(zono.Image(h.A, h.Z, 40)) },
		"Image of one row": func(h handed) result { return sets(zono.Image([][]api.Span{h.A[0], h.A[0]}, h.Z, maxBits)) },
		"Image by 1": func(h handed) result {
			return sets(zono.Image([][]api.Span{points(1, 0, 0), points(0, 1, 0)}, h.Z, maxBits))
		},
		"Image, refused":   func(h handed) result { return sets(zono.Image(h.A, h.Z, 1)) },
		"Add":              func(h handed) result { return sets(zono.Add(h.Z, h.Y, 40)) },
		"Add of one":       func(h handed) result { return sets(zono.Add(h.Z, h.Z, maxBits)) },
		"Add of nothing":   func(h handed) result { return sets(zono.Add(h.Z, zono.Point(3), maxBits)) },
		"Add, refused":     func(h handed) result { return sets(zono.Add(h.Z, h.Y, 1)) },
		"Wider":            func(h handed) result { return sets(zono.Wider(h.Z, h.D, 40)) },
		"Wider by nothing": func(h handed) result { return sets(zono.Wider(h.Z, api.Dyad{}, maxBits)) },
		"Wider of nothing": func(h handed) result { return sets(zono.Wider(zono.Point(3), h.D, maxBits)) },
		"Times":            func(h handed) result { return sets(zono.Times(h.Z, h.By, 40)) },
		"Times 1":          func(h handed) result { return sets(zono.Times(h.Z, point(1, 0), maxBits)) },
		"Times itself":     func(h handed) result { return sets(zono.Times(h.Z, span.Point(h.Z.Center[0]), maxBits)) },
		"Support":          func(h handed) result { return numbers(zono.Support(h.Z, h.A[0], 40)) },
		"Support of a way": func(h handed) result { return numbers(zono.Support(alone(h), points(1, 0, 0), maxBits)) },
		"Box":              func(h handed) result { return boxes(zono.Box(h.Z, 40)) },
		"Box of a way":     func(h handed) result { return boxes(zono.Box(alone(h), maxBits)) },
		"Box of a middle": func(h handed) result {
			return boxes(zono.Box(zono.Zono{Center: h.Z.Center, Round: make([]api.Dyad, 3)}, maxBits))
		},
		"Reach": func(h handed) result { return numbers(zono.Reach(h.Z, 40)) },
		"Reach of a middle": func(h handed) result {
			return numbers(zono.Reach(zono.Zono{Center: h.Z.Center, Round: make([]api.Dyad, 3)}, maxBits))
		},
		"Reach of a way": func(h handed) result { return numbers(zono.Reach(alone(h), maxBits)) },
		"Check": func(h handed) result {
			zono.Check(h.Z, 3)
			return result{}
		},
	}
}

func TestMemory(t *testing.T) {
	m := mixer(15)
	given := handed{M: model.Zono{Center: m.rats(3), Gens: [][]api.Rat{m.rats(3), m.rats(3)}}, Z: m.set(3, 2), Y: m.set(3, 1), A: m.table(3, 3, -5), By: m.spans(1, -3)[0], D: at(-12345678901, -20)}
	for name, call := range calls() {
		h := roomy(reflect.ValueOf(given)).Interface().(handed)
		were := contents(reflect.ValueOf(h))
		first, second := call(h), call(h)
		if shared(slices.Concat(rooms(reflect.ValueOf(h)), rooms(reflect.ValueOf(first)), rooms(reflect.ValueOf(second)))) {
			t.Errorf("%s: memory is shared", name)
		}
		if !slices.Equal(contents(reflect.ValueOf(h)), were) {
			t.Errorf("%s: what was handed in is changed", name)
		}
		if !reflect.DeepEqual(first, second) {
			t.Errorf("%s: answers unlike each other", name)
		}
	}
}
