package series_test

import (
	"math"
	"reflect"
	"slices"
	"testing"

	"girdle/api"
	"girdle/dyad"
	"girdle/limbs"
	"girdle/ratio"
	"girdle/series"
	"girdle/whole"
)

// P1

// wrong is ratios that can't be.
func wrong() []api.Rat {
	over := slices.Repeat(api.Nat{math.MaxUint32}, 700)
	return []api.Rat{
		{}, {Num: whole.Of(1)}, {Num: api.Int{Minus: true}}, {Num: whole.Of(6), Den: limbs.Of(4)}, {Num: whole.Of(3), Den: api.Nat{0}}, {Num: whole.Of(-3), Den: api.Nat{5, 0, 0}},
		{Num: api.Int{Size: api.Nat{0, 0}}, Den: limbs.Of(1)}, {Num: api.Int{Minus: true, Size: api.Nat{0, 7, 0}}, Den: limbs.Of(3)}, {Num: whole.Nat(over), Den: limbs.Of(1)}, {Num: whole.Of(1), Den: over}, {Num: api.Int{Minus: true, Size: over}, Den: over},
	}
}

// wrongSpans is spans that can't be.
func wrongSpans() []api.Span {
	over := api.Dyad{Man: api.Int{Size: slices.Repeat(api.Nat{math.MaxUint32}, 700)}, Exp: 3}
	list := []api.Dyad{{}, {Exp: math.MaxInt}, {Man: whole.Of(4), Exp: math.MinInt}, {Man: whole.Of(-7), Exp: math.MaxInt}, {Man: api.Int{Size: api.Nat{0}}, Exp: 5}, {Man: api.Int{Minus: true, Size: api.Nat{9, 0}}}, over, dyad.Neg(over)}
	var spans []api.Span
	for _, lo := range list {
		for _, hi := range list {
			spans = append(spans, api.Span{Lo: lo, Hi: hi})
		}
	}
	return spans
}

func TestNoCallPanics(t *testing.T) {
	counts := []int{math.MinInt, -1, 0, 7, 8, 60, 512, 513, 4096, math.MaxInt}
	for _, bits := range counts {
		series.Terms(bits)
	}
	times := append(wrong(), ratio.Of(3, 2), power(limbBits-1), power(1-limbBits))
	tables := [][][]api.Rat{nil, {nil}, {nil, {}}, table("1 2;3;"), table("1 2;3 4;"), {{power(limbBits - 1), power(1 - limbBits)}, {ratio.Of(1, 3), ratio.Neg(power(limbBits - 1))}}}
	for _, x := range wrong() {
		tables = append(tables, [][]api.Rat{{x}}, [][]api.Rat{{ratio.Of(1, 2), x}, {x, x}})
	}
	for _, a := range tables {
		for _, time := range times {
			for _, bits := range []int{math.MinInt, 7, 8, 60, math.MaxInt} {
				if p, e := series.Make(a, time, bits); e != api.OK && (len(p.Exp) > 0 || len(p.Sum) > 0) {
					t.Errorf("tables beside error %d", e)
				}
			}
		}
	}
	for i, x := range wrongSpans() {
		y := wrongSpans()[i*7%64]
		for _, p := range []series.Growth{{}, {Exp: [][]api.Span{{x}}}, {Sum: [][]api.Span{{x}}}, {Exp: [][]api.Span{{x}}, Sum: [][]api.Span{{y}}}, {Exp: [][]api.Span{{x, y}, {y, x}}, Sum: [][]api.Span{{y, y}, {x}}}, {Exp: [][]api.Span{{x, y}, nil}, Sum: [][]api.Span{nil, {x, y}}}} {
			for _, bits := range counts {
				series.Twice(p, bits)
				series.Scaled(p.Exp, y, bits)
			}
		}
	}
}

// P2

// room is where a list's memory begins, and where it ends, its spare room too.
type room struct{ from, to uintptr }

// rooms is the memory of all lists within a value.
func rooms(v reflect.Value) []room {
	var list []room
	switch v.Kind() {
	case reflect.Struct:
		for i := range v.NumField() {
			list = append(list, rooms(v.Field(i))...)
		}
	case reflect.Slice:
		if size := uintptr(v.Cap()) * v.Type().Elem().Size(); size > 0 {
			list = append(list, room{v.Pointer(), v.Pointer() + size})
		}
		for i := range v.Len() {
			list = append(list, rooms(v.Index(i))...)
		}
	}
	return list
}

// shared tells whether two of some lists have memory in common.
func shared(list []room) bool {
	slices.SortFunc(list, func(a, b room) int { return int(a.from) - int(b.from) })
	for i := range list[1:] {
		if list[i].to > list[i+1].from {
			return true
		}
	}
	return false
}

// roomy is a copy of a value in which every list has spare room, where something stands.
func roomy(v reflect.Value) reflect.Value {
	out := reflect.New(v.Type()).Elem()
	switch v.Kind() {
	case reflect.Struct:
		for i := range v.NumField() {
			out.Field(i).Set(roomy(v.Field(i)))
		}
	case reflect.Slice:
		out.Set(reflect.MakeSlice(v.Type(), v.Len(), v.Len()+2))
		for i := range v.Len() {
			out.Index(i).Set(roomy(v.Index(i)))
		}
		if v.Len() > 0 {
			spare := out.Slice(0, v.Len()+2)
			spare.Index(v.Len()).Set(roomy(v.Index(0)))
			spare.Index(v.Len() + 1).Set(roomy(v.Index(v.Len() - 1)))
		}
	default:
		out.Set(v)
	}
	return out
}

// contents is all that stands in a value, in its lists' spare room too.
func contents(v reflect.Value) []int64 {
	var list []int64
	switch v.Kind() {
	case reflect.Struct:
		for i := range v.NumField() {
			list = append(list, contents(v.Field(i))...)
		}
	case reflect.Slice:
		list = append(list, int64(v.Len()), int64(v.Cap()))
		full := v.Slice3(0, v.Cap(), v.Cap())
		for i := range full.Len() {
			list = append(list, contents(full.Index(i))...)
		}
	case reflect.Bool:
		list = append(list, 0)
		if v.Bool() {
			list[0] = 1
		}
	case reflect.Int:
		list = append(list, v.Int())
	case reflect.Uint32:
		list = append(list, int64(v.Uint()))
	default:
		panic("a value of another kind")
	}
	return list
}

// handed is what calls are given.
type handed struct {
	A, N  [][]api.Rat
	T     api.Rat
	Long  api.Rat
	P     series.Growth
	By    api.Span
	Great api.Span
}

// result is what they answer.
type result struct {
	P    series.Growth
	S    [][]api.Span
	Left api.Dyad
}

// calls is all of them.
func calls() map[string]func(h handed) result {
	grown := func(p series.Growth, e api.Errno) result { return result{P: p} }
	scaled := func(s [][]api.Span, e api.Errno) result { return result{S: s} }
	return map[string]func(h handed) result{
		"Terms": func(h handed) result {
			_, left := series.Terms(60)
			return result{Left: left}
		},
		"Make":                    func(h handed) result { return grown(series.Make(h.A, h.T, 40)) },
		"Make at once":            func(h handed) result { return grown(series.Make(h.A, ratio.Zero(), 40)) },
		"Make of what is exact":   func(h handed) result { return grown(series.Make(h.N, ratio.Of(3, 1), 40)) },
		"Make of long ratios":     func(h handed) result { return grown(series.Make([][]api.Rat{{h.Long}}, h.Long, 40)) },
		"Make of what is far":     func(h handed) result { return grown(series.Make(table("-40000 1;0 1;"), h.T, 40)) },
		"Make, refused":           func(h handed) result { return grown(series.Make(h.A[:1], h.T, 40)) },
		"Make of too much":        func(h handed) result { return grown(series.Make(h.A, power(62), 40)) },
		"Twice":                   func(h handed) result { return grown(series.Twice(h.P, 40)) },
		"Twice of one table":      func(h handed) result { return grown(series.Twice(series.Growth{Exp: h.P.Exp, Sum: h.P.Exp}, 4096)) },
		"Twice, refused":          func(h handed) result { return grown(series.Twice(h.P, 1)) },
		"Scaled":                  func(h handed) result { return scaled(series.Scaled(h.P.Exp, h.By, 40)) },
		"Scaled by 1":             func(h handed) result { return scaled(series.Scaled(h.P.Exp, of(1, 1), 4096)) },
		"Scaled by what is in it": func(h handed) result { return scaled(series.Scaled(h.P.Exp, h.P.Exp[0][1], 4096)) },
		"Scaled, refused":         func(h handed) result { return scaled(series.Scaled(h.P.Exp, h.Great, 40)) },
	}
}

func TestMemory(t *testing.T) {
	both, _ := ratio.Make(whole.Nat(long(512, 5)), whole.Nat(long(512, 6)))
	given := handed{
		A: table("1/3 -5;123456789123456789/7 0;"), N: table("0 1;0 0;"), T: rat("123456789123456789/1000000000000000"), Long: both,
		P: series.Growth{Exp: wide(2, 2, 3), Sum: wide(2, 2, 4)}, By: api.Span{Lo: at(-12345678912345, -3), Hi: at(77, 40)}, Great: api.Span{Lo: at(-1, 0), Hi: at(1, maxExp)},
	}
	for name, call := range calls() {
		h := roomy(reflect.ValueOf(given)).Interface().(handed)
		were := contents(reflect.ValueOf(h))
		first, second := call(h), call(h)
		if shared(slices.Concat(rooms(reflect.ValueOf(h)), rooms(reflect.ValueOf(first)), rooms(reflect.ValueOf(second)))) {
			t.Errorf("%s: memory is shared", name)
		}
		if !slices.Equal(contents(reflect.ValueOf(h)), were) {
			t.Errorf("%s: what was handed in is changed", name)
		}
		if !alike(first.P.Exp, second.P.Exp) || !alike(first.P.Sum, second.P.Sum) || !alike(first.S, second.S) || dyad.Compare(first.Left, second.Left) != 0 {
			t.Errorf("%s: answers unlike each other", name)
		}
	}
}
