package mat_test

import (
	"reflect"
	"slices"
	"testing"

	"girdle/api"
	"girdle/dyad"
	"girdle/mat"
	"girdle/ratio"
)

// P2

// room is where a list's memory begins, and where it ends, its spare room too.
type room struct{ from, to uintptr }

// rooms is the memory of all lists within a value.
func rooms(v reflect.Value) []room {
	var list []room
	switch v.Kind() {
	case reflect.Struct:
		for i := range v.NumField() {
			list = append(list, rooms(v.Field(i))...)
		}
	case reflect.Slice:
		if size := uintptr(v.Cap()) * v.Type().Elem().Size(); size > 0 {
			list = append(list, room{v.Pointer(), v.Pointer() + size})
		}
		for i := range v.Len() {
			list = append(list, rooms(v.Index(i))...)
		}
	}
	return list
}

// shared tells whether two of some lists have memory in common.
func shared(list []room) bool {
	slices.SortFunc(list, func(a, b room) int { return int(a.from) - int(b.from) })
	for i := range list[1:] {
		if list[i].to > list[i+1].from {
			return true
		}
	}
	return false
}

// contents is all that stands in a value, in its lists' spare room too.
func contents(v reflect.Value) []int64 {
	var list []int64
	switch v.Kind() {
	case reflect.Struct:
		for i := range v.NumField() {
			list = append(list, contents(v.Field(i))...)
		}
	case reflect.Slice:
		list = append(list, int64(v.Len()), int64(v.Cap()))
		full := v.Slice3(0, v.Cap(), v.Cap())
		for i := range full.Len() {
			list = append(list, contents(full.Index(i))...)
		}
	case reflect.Bool:
		list = append(list, 0)
		if v.Bool() {
			list[0] = 1
		}
	case reflect.Int:
		list = append(list, v.Int())
	case reflect.Uint32:
		list = append(list, int64(v.Uint()))
	default:
		panic("a value of another kind")
	}
	return list
}

// roomy is a list with spare room, in which something stands.
func roomy[T any](list []T) []T {
	return append(slices.Clone(list), list...)[: len(list) : 2*len(list)]
}

// roomyNumber is a number with spare room.
func roomyNumber(a api.Nat) api.Nat {
	return append(slices.Clone(a), 77, 78, 79)[: len(a) : len(a)+3]
}

// roomyRats is a table of ratios with spare room everywhere.
func roomyRats(text string) [][]api.Rat {
	rows := table(text)
	for i, row := range rows {
		for j, x := range row {
			row[j].Num.Size, row[j].Den = roomyNumber(x.Num.Size), roomyNumber(x.Den)
		}
		rows[i] = roomy(row)
	}
	return roomy(rows)
}

// roomySpans is a table of spans with spare room everywhere.
func roomySpans(text string) [][]api.Span {
	rows := wide(text)
	for i, row := range rows {
		for j, x := range row {
			row[j].Lo.Man.Size, row[j].Hi.Man.Size = roomyNumber(x.Lo.Man.Size), roomyNumber(x.Hi.Man.Size)
		}
		rows[i] = roomy(row)
	}
	return roomy(rows)
}

// handed is what calls are given.
type handed struct {
	A, B [][]api.Rat
	S, T [][]api.Span
	By   api.Dyad
}

// result is what they answer.
type result struct {
	Rats  [][]api.Rat
	Spans [][]api.Span
	Size  api.Dyad
}

// calls is all of them.
func calls() map[string]func(h handed) result {
	ratios := func(rows [][]api.Rat, e api.Errno) result { return result{Rats: rows} }
	spans := func(rows [][]api.Span, e api.Errno) result { return result{Spans: rows} }
	return map[string]func(h handed) result{
		"Zero":                          func(h handed) result { return result{Rats: mat.Zero(3, 4)} },
		"One":                           func(h handed) result { return result{Rats: mat.One(3)} },
		"Turn":                          func(h handed) result { return ratios(mat.Turn(h.A)) },
		"Turn of a row":                 func(h handed) result { return ratios(mat.Turn(h.A[1:2])) },
		"Mul":                           func(h handed) result { return ratios(mat.Mul(h.A, h.B)) },
		"Mul of one":                    func(h handed) result { return ratios(mat.Mul(h.A, h.A)) },
		"Mul with ones":                 func(h handed) result { return ratios(mat.Mul(h.A, mat.One(2))) },
		"Add":                           func(h handed) result { return ratios(mat.Add(h.A, h.B)) },
		"Add of one":                    func(h handed) result { return ratios(mat.Add(h.A, h.A)) },
		"Add of nothing":                func(h handed) result { return ratios(mat.Add(h.A, mat.Zero(2, 2))) },
		"Scale":                         func(h handed) result { return ratios(mat.Scale(h.A, h.B[0][0])) },
		"Scale by 1":                    func(h handed) result { return ratios(mat.Scale(h.A, ratio.Of(1, 1))) },
		"Scale by a ratio of the table": func(h handed) result { return ratios(mat.Scale(h.A, h.A[1][0])) },
		"Near":                          func(h handed) result { return spans(mat.Near(h.A, 10)) },
		"Times":                         func(h handed) result { return spans(mat.Times(h.S, h.T, 10)) },
		"Times of one":                  func(h handed) result { return spans(mat.Times(h.S, h.S, 4096)) },
		"Plus":                          func(h handed) result { return spans(mat.Plus(h.S, h.T, 10)) },
		"Plus of one":                   func(h handed) result { return spans(mat.Plus(h.S, h.S, 4096)) },
		"Even":                          func(h handed) result { return result{Spans: mat.Even(3, h.By)} },
		"Apply": func(h handed) result {
			list, _ := mat.Apply(h.A, h.B[1])
			return result{Rats: [][]api.Rat{list}}
		},
		"On": func(h handed) result {
			list, _ := mat.On(h.S, h.T[1], 10)
			return result{Spans: [][]api.Span{list}}
		},
		"On of a row of the table": func(h handed) result {
			list, _ := mat.On(h.S, h.S[1], 4096)
			return result{Spans: [][]api.Span{list}}
		},
		"Norm": func(h handed) result {
			x, _ := mat.Norm(h.A)
			return result{Rats: [][]api.Rat{{x}}}
		},
		"Norm of one place": func(h handed) result {
			x, _ := mat.Norm([][]api.Rat{h.A[0][:1]})
			return result{Rats: [][]api.Rat{{x}}}
		},
		"Size": func(h handed) result {
			x, _ := mat.Size(h.S, 10)
			return result{Size: x}
		},
		"Size of one place": func(h handed) result {
			x, _ := mat.Size([][]api.Span{h.S[0][1:2]}, 4096)
			return result{Size: x}
		},
		"those that answer no numbers": func(h handed) result {
			mat.Check(h.A, 2, 2)
			mat.Holds(h.S, h.A)
			return result{}
		},
		"refused ones": func(h handed) result {
			mat.Turn([][]api.Rat{h.A[0], h.B[0][:1]})
			mat.Mul(h.A, h.B[:1])
			mat.Add(h.A[:1], h.B)
			mat.Apply(h.A, h.B[0][:1])
			mat.Times(h.S, h.T, 1)
			mat.Plus(h.S, h.T, 5000)
			mat.On(h.S, h.T[0][:1], 9)
			mat.Size(h.S, 0)
			return result{}
		},
	}
}

func TestMemory(t *testing.T) {
	for name, call := range calls() {
		h := handed{
			roomyRats("1/3 -5;123456789123456789/7 0;"), roomyRats("-2 1/9;4 -7/5;"),
			roomySpans("-1..1 3..7;0..123456789123 5;"), roomySpans("1 0;-4..9 -2..3;"), at(-12345678912345, -3),
		}
		h.By.Man.Size = roomyNumber(h.By.Man.Size)
		were := contents(reflect.ValueOf(h))
		first, second := call(h), call(h)
		if shared(slices.Concat(rooms(reflect.ValueOf(h)), rooms(reflect.ValueOf(first)), rooms(reflect.ValueOf(second)))) {
			t.Errorf("%s: memory is shared", name)
		}
		if !slices.Equal(contents(reflect.ValueOf(h)), were) {
			t.Errorf("%s: what was handed in is changed", name)
		}
		if text(first.Rats) != text(second.Rats) || wideText(first.Spans) != wideText(second.Spans) || dyad.Compare(first.Size, second.Size) != 0 {
			t.Errorf("%s: answers unlike each other", name)
		}
	}
}
