package model_test

import (
	"reflect"
	"slices"
	"testing"

	"girdle/api"
	"girdle/limbs"
	"girdle/model"
)

// P2

// room is where a list's memory begins, and where it ends, its spare room too.
type room struct{ from, to uintptr }

// rooms is the memory of all lists within a value.
func rooms(v reflect.Value) []room {
	var list []room
	switch v.Kind() {
	case reflect.Struct:
		for i := range v.NumField() {
			list = append(list, rooms(v.Field(i))...)
		}
	case reflect.Slice:
		if size := uintptr(v.Cap()) * v.Type().Elem().Size(); size > 0 {
			list = append(list, room{v.Pointer(), v.Pointer() + size})
		}
		for i := range v.Len() {
			list = append(list, rooms(v.Index(i))...)
		}
	}
	return list
}

// shared tells whether two of some lists have memory in common.
func shared(list []room) bool {
	slices.SortFunc(list, func(a, b room) int { return int(a.from) - int(b.from) })
	for i := range list[1:] {
		if list[i].to > list[i+1].from {
			return true
		}
	}
	return false
}

// roomy is a copy of a value in which every list has spare room, where something stands.
func roomy(v reflect.Value) reflect.Value {
	out := reflect.New(v.Type()).Elem()
	switch v.Kind() {
	case reflect.Struct:
		for i := range v.NumField() {
			out.Field(i).Set(roomy(v.Field(i)))
		}
	case reflect.Slice:
		out.Set(reflect.MakeSlice(v.Type(), v.Len(), v.Len()+2))
		for i := range v.Len() {
			out.Index(i).Set(roomy(v.Index(i)))
		}
		if v.Len() > 0 {
			spare := out.Slice(0, v.Len()+2)
			spare.Index(v.Len()).Set(roomy(v.Index(0)))
			spare.Index(v.Len() + 1).Set(roomy(v.Index(v.Len() - 1)))
		}
	default:
		out.Set(v)
	}
	return out
}

// contents is all that stands in a value, in its lists' spare room too.
func contents(v reflect.Value) []int64 {
	var list []int64
	switch v.Kind() {
	case reflect.Struct:
		for i := range v.NumField() {
			list = append(list, contents(v.Field(i))...)
		}
	case reflect.Slice:
		list = append(list, int64(v.Len()), int64(v.Cap()))
		full := v.Slice3(0, v.Cap(), v.Cap())
		for i := range full.Len() {
			list = append(list, contents(full.Index(i))...)
		}
	case reflect.Bool:
		list = append(list, 0)
		if v.Bool() {
			list[0] = 1
		}
	case reflect.Int:
		list = append(list, v.Int())
	case reflect.Uint32:
		list = append(list, int64(v.Uint()))
	default:
		panic("a value of another kind")
	}
	return list
}

// handed is what calls are given.
type handed struct {
	M, N model.Model
	By   []api.Rat
}

// calls is all of them; those that answer no list answer none.
func calls() map[string]func(h handed) []api.Rat {
	point := func(z model.Zono, by []api.Rat) []api.Rat {
		x, _ := model.Point(z, by)
		return x
	}
	return map[string]func(h handed) []api.Rat{
		"Point":                 func(h handed) []api.Rat { return point(h.M.Start, h.By) },
		"Point of a single way": func(h handed) []api.Rat { return point(model.Zono{Center: h.M.C, Gens: h.M.Start.Gens[:1]}, h.By[:1]) },
		"Point by nothing":      func(h handed) []api.Rat { return point(h.M.Input, rats("0 0 0")) },
		"Point by ones":         func(h handed) []api.Rat { return point(h.M.Start, rats("1 1 -1")) },
		"Point of a middle":     func(h handed) []api.Rat { return point(model.Zono{Center: h.M.C}, nil) },
		"Point of equal lists":  func(h handed) []api.Rat { return point(model.Zono{Center: h.M.C, Gens: [][]api.Rat{h.M.C}}, h.By[:1]) },
		"Point, refused":        func(h handed) []api.Rat { return point(h.M.Start, h.M.C) },
		"Point beyond, refused": func(h handed) []api.Rat { return point(h.M.Start, rats("1 2 3")) },
		"Point unlike, refused": func(h handed) []api.Rat { return point(model.Zono{Center: h.M.C, Gens: h.M.Input.Gens}, h.By) },
		"those that answer none": func(h handed) []api.Rat {
			model.Check(h.M)
			model.Check(h.N)
			model.Steps(h.M)
			model.Steps(h.N)
			model.Same(h.M, h.N)
			model.Same(h.M, h.M)
			return nil
		},
	}
}

func TestMemory(t *testing.T) {
	refused := sized(3, 2, 2, 2)
	refused.Horizon = rat("-1")
	refused.Claims[1].To.Num.Size = slices.Repeat(limbs.Of(7), 600)
	for name, call := range calls() {
		h := roomy(reflect.ValueOf(handed{common(), refused, rats("1/3 -1 123456789123456789/123456789123456790")})).Interface().(handed)
		were := contents(reflect.ValueOf(h))
		first, second := call(h), call(h)
		if shared(slices.Concat(rooms(reflect.ValueOf(h)), rooms(reflect.ValueOf(first)), rooms(reflect.ValueOf(second)))) {
			t.Errorf("%s: memory is shared", name)
		}
		if !slices.Equal(contents(reflect.ValueOf(h)), were) {
			t.Errorf("%s: what was handed in is changed", name)
		}
		if text(first) != text(second) {
			t.Errorf("%s: answers unlike each other", name)
		}
	}
}
