package vec_test

import (
	"reflect"
	"slices"
	"testing"

	"girdle/api"
	"girdle/ratio"
	"girdle/vec"
)

// P2

// room is where a list's memory begins, and where it ends, its spare room too.
type room struct{ from, to uintptr }

// rooms is the memory of all lists within a value.
func rooms(v reflect.Value) []room {
	var list []room
	switch v.Kind() {
	case reflect.Struct:
		for i := range v.NumField() {
			list = append(list, rooms(v.Field(i))...)
		}
	case reflect.Slice:
		if size := uintptr(v.Cap()) * v.Type().Elem().Size(); size > 0 {
			list = append(list, room{v.Pointer(), v.Pointer() + size})
		}
		for i := range v.Len() {
			list = append(list, rooms(v.Index(i))...)
		}
	}
	return list
}

// shared tells whether two of some lists have memory in common.
func shared(list []room) bool {
	slices.SortFunc(list, func(a, b room) int { return int(a.from) - int(b.from) })
	for i := range list[1:] {
		if list[i].to > list[i+1].from {
			return true
		}
	}
	return false
}

// contents is all that stands in a value, in its lists' spare room too.
func contents(v reflect.Value) []int64 {
	var list []int64
	switch v.Kind() {
	case reflect.Struct:
		for i := range v.NumField() {
			list = append(list, contents(v.Field(i))...)
		}
	case reflect.Slice:
		list = append(list, int64(v.Len()), int64(v.Cap()))
		full := v.Slice3(0, v.Cap(), v.Cap())
		for i := range full.Len() {
			list = append(list, contents(full.Index(i))...)
		}
	case reflect.Bool:
		list = append(list, 0)
		if v.Bool() {
			list[0] = 1
		}
	case reflect.Int:
		list = append(list, v.Int())
	case reflect.Uint32:
		list = append(list, int64(v.Uint()))
	default:
		panic("a value of another kind")
	}
	return list
}

// roomy is a list with spare room, in which something stands.
func roomy[T any](list []T) []T {
	return append(slices.Clone(list), list...)[: len(list) : 2*len(list)]
}

// roomyNumber is a number with spare room.
func roomyNumber(a api.Nat) api.Nat {
	return append(slices.Clone(a), 77, 78, 79)[: len(a) : len(a)+3]
}

// roomyRats is a list of ratios with spare room everywhere.
func roomyRats(text string) []api.Rat {
	list := rats(text)
	for i := range list {
		list[i].Num.Size, list[i].Den = roomyNumber(list[i].Num.Size), roomyNumber(list[i].Den)
	}
	return roomy(list)
}

// roomySpans is a list of spans with spare room everywhere.
func roomySpans(text string) []api.Span {
	list := parsed(text)
	for i := range list {
		list[i].Lo.Man.Size, list[i].Hi.Man.Size = roomyNumber(list[i].Lo.Man.Size), roomyNumber(list[i].Hi.Man.Size)
	}
	return roomy(list)
}

// handed is what calls are given.
type handed struct {
	A, B []api.Rat
	By   []api.Rat
	S, T []api.Span
	On   []api.Span
}

// result is what they answer.
type result struct {
	Rats  []api.Rat
	Spans []api.Span
	Size  api.Dyad
}

// calls is all of them.
func calls() map[string]func(h handed) result {
	ratios := func(list []api.Rat, e api.Errno) result { return result{Rats: list} }
	spans := func(list []api.Span, e api.Errno) result { return result{Spans: list} }
	return map[string]func(h handed) result{
		"Zero":                         func(h handed) result { return result{Rats: vec.Zero(5)} },
		"Unit":                         func(h handed) result { return result{Rats: vec.Unit(5, 3)} },
		"Add":                          func(h handed) result { return ratios(vec.Add(h.A, h.B)) },
		"Add of one":                   func(h handed) result { return ratios(vec.Add(h.A, h.A)) },
		"Sub":                          func(h handed) result { return ratios(vec.Sub(h.A, h.B)) },
		"Sub of one":                   func(h handed) result { return ratios(vec.Sub(h.A, h.A)) },
		"Scale":                        func(h handed) result { return ratios(vec.Scale(h.A, h.By[0])) },
		"Scale by 1":                   func(h handed) result { return ratios(vec.Scale(h.A, ratio.Of(1, 1))) },
		"Scale by a ratio of the list": func(h handed) result { return ratios(vec.Scale(h.A, h.A[1])) },
		"Near":                         func(h handed) result { return spans(vec.Near(h.A, 10)) },
		"Plus":                         func(h handed) result { return spans(vec.Plus(h.S, h.T, 10)) },
		"Plus of one":                  func(h handed) result { return spans(vec.Plus(h.S, h.S, 4096)) },
		"Times":                        func(h handed) result { return spans(vec.Times(h.S, h.On[0], 10)) },
		"Times a span of the list":     func(h handed) result { return spans(vec.Times(h.S, h.S[1], 4096)) },
		"Norm":                         func(h handed) result { return result{Size: vec.Norm(h.S)} },
		"Dot": func(h handed) result {
			x, _ := vec.Dot(h.A, h.B)
			return result{Rats: []api.Rat{x}}
		},
		"Dot of one place": func(h handed) result {
			x, _ := vec.Dot(h.A[:1], h.B[:1])
			return result{Rats: []api.Rat{x}}
		},
		"Inner": func(h handed) result {
			x, _ := vec.Inner(h.S, h.T, 10)
			return result{Spans: []api.Span{x}}
		},
		"Inner of one place": func(h handed) result {
			x, _ := vec.Inner(h.S[1:2], h.T[1:2], 10)
			return result{Spans: []api.Span{x}}
		},
		"those that answer no numbers": func(h handed) result {
			vec.Check(h.A, 3)
			vec.Same(h.A, h.B)
			vec.Holds(h.S, h.A)
			return result{}
		},
		"refused ones": func(h handed) result {
			vec.Add(h.A, h.B[:2])
			vec.Dot(h.A[:1], h.B)
			vec.Plus(h.S, h.T, 1)
			vec.Inner(h.S, h.T[:1], 9)
			vec.Times(h.S, h.On[0], 5000)
			return result{}
		},
	}
}

func TestMemory(t *testing.T) {
	for name, call := range calls() {
		h := handed{
			roomyRats("1/3 -5 123456789123456789/7"), roomyRats("1 0 -2/9"), roomyRats("-4/3"),
			roomySpans("-1..1 3..7 0..123456789123"), roomySpans("1..1 0..0 -4..9"), roomySpans("-2..3"),
		}
		were := contents(reflect.ValueOf(h))
		first, second := call(h), call(h)
		if shared(slices.Concat(rooms(reflect.ValueOf(h)), rooms(reflect.ValueOf(first)), rooms(reflect.ValueOf(second)))) {
			t.Errorf("%s: memory is shared", name)
		}
		if !slices.Equal(contents(reflect.ValueOf(h)), were) {
			t.Errorf("%s: what was handed in is changed", name)
		}
		if text(first.Rats) != text(second.Rats) || words(first.Spans) != words(second.Spans) {
			t.Errorf("%s: answers unlike each other", name)
		}
	}
}
