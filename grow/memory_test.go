package grow_test

import (
	"reflect"
	"slices"
	"testing"

	"girdle/api"
	"girdle/grow"
	"girdle/ratio"
	"girdle/span"
	"girdle/whole"
)

// P2

// room is where a list's memory begins, and where it ends, its spare room too.
type room struct{ from, to uintptr }

// rooms is the memory of all lists within a value.
func rooms(v reflect.Value) []room {
	var list []room
	switch v.Kind() {
	case reflect.Struct:
		for i := range v.NumField() {
			list = append(list, rooms(v.Field(i))...)
		}
	case reflect.Slice:
		if size := uintptr(v.Cap()) * v.Type().Elem().Size(); size > 0 {
			list = append(list, room{v.Pointer(), v.Pointer() + size})
		}
		for i := range v.Len() {
			list = append(list, rooms(v.Index(i))...)
		}
	}
	return list
}

// shared tells whether two of some lists have memory in common.
func shared(list []room) bool {
	slices.SortFunc(list, func(a, b room) int { return int(a.from) - int(b.from) })
	for i := range list[1:] {
		if list[i].to > list[i+1].from {
			return true
		}
	}
	return false
}

// roomy is a copy of a value in which every list has spare room, where something stands.
func roomy(v reflect.Value) reflect.Value {
	out := reflect.New(v.Type()).Elem()
	switch v.Kind() {
	case reflect.Struct:
		for i := range v.NumField() {
			out.Field(i).Set(roomy(v.Field(i)))
		}
	case reflect.Slice:
		out.Set(reflect.MakeSlice(v.Type(), v.Len(), v.Len()+2))
		for i := range v.Len() {
			out.Index(i).Set(roomy(v.Index(i)))
		}
		if v.Len() > 0 {
			spare := out.Slice(0, v.Len()+2)
			spare.Index(v.Len()).Set(roomy(v.Index(0)))
			spare.Index(v.Len() + 1).Set(roomy(v.Index(v.Len() - 1)))
		}
	default:
		out.Set(v)
	}
	return out
}

// contents is all that stands in a value, in its lists' spare room too.
func contents(v reflect.Value) []int64 {
	var list []int64
	switch v.Kind() {
	case reflect.Struct:
		for i := range v.NumField() {
			list = append(list, contents(v.Field(i))...)
		}
	case reflect.Slice:
		list = append(list, int64(v.Len()), int64(v.Cap()))
		full := v.Slice3(0, v.Cap(), v.Cap())
		for i := range full.Len() {
			list = append(list, contents(full.Index(i))...)
		}
	case reflect.Bool:
		list = append(list, 0)
		if v.Bool() {
			list[0] = 1
		}
	case reflect.Int:
		list = append(list, v.Int())
	case reflect.Uint32:
		list = append(list, int64(v.Uint()))
	default:
		panic("a value of another kind")
	}
	return list
}

// handed is what calls are given.
type handed struct {
	R, Long, Great api.Rat
	A              [][]api.Rat
}

// result is what they answer.
type result struct {
	S api.Span
	D api.Dyad
	R api.Rat
}

// calls is all of them.
func calls() map[string]func(h handed) result {
	list := map[string]func(h handed) result{}
	spans := map[string]func(r api.Rat, bits int) (api.Span, api.Errno){"Exp": grow.Exp, "One": grow.One, "Two": grow.Two}
	for name, call := range spans {
		list[name] = func(h handed) result {
			s, _ := call(h.R, 60)
			return result{S: s}
		}
		list[name+" of a long one"] = func(h handed) result {
			s, _ := call(h.Long, 60)
			return result{S: s}
		}
		list[name+", refused"] = func(h handed) result {
			s, _ := call(h.Great, 60)
			return result{S: s}
		}
	}
	numbers := map[string]func(r api.Rat, bits int) (api.Dyad, api.Errno){"Curve": grow.Curve, "Rise": grow.Rise}
	for name, call := range numbers {
		list[name] = func(h handed) result {
			d, _ := call(h.R, 60)
			return result{D: d}
		}
		list[name+", refused"] = func(h handed) result {
			d, _ := call(h.Great, 7)
			return result{D: d}
		}
	}
	rates := map[string]func(h handed) (api.Rat, api.Errno){
		"Rate":          func(h handed) (api.Rat, api.Errno) { return grow.Rate(h.A, h.R) },
		"Rate by 1":     func(h handed) (api.Rat, api.Errno) { return grow.Rate(h.A, ratio.Of(1, 1)) },
		"Rate of one":   func(h handed) (api.Rat, api.Errno) { return grow.Rate([][]api.Rat{{h.R}}, ratio.Of(1, 1)) },
		"Rate, refused": func(h handed) (api.Rat, api.Errno) { return grow.Rate([][]api.Rat{{h.Long}}, h.Long) },
	}
	for name, call := range rates {
		list[name] = func(h handed) result {
			r, _ := call(h)
			return result{R: r}
		}
	}
	return list
}

func TestMemory(t *testing.T) {
	both, _ := ratio.Make(whole.Nat(long(512, 5)), whole.Nat(long(512, 6)))
	given := handed{R: rat("123456789123456789/10000000000000000"), Long: both, Great: rat("12345678901234567890/7"), A: table("1/3 -5;123456789123456789/7 0;")}
	for name, call := range calls() {
		h := roomy(reflect.ValueOf(given)).Interface().(handed)
		were := contents(reflect.ValueOf(h))
		first, second := call(h), call(h)
		if shared(slices.Concat(rooms(reflect.ValueOf(h)), rooms(reflect.ValueOf(first)), rooms(reflect.ValueOf(second)))) {
			t.Errorf("%s: memory is shared", name)
		}
		if !slices.Equal(contents(reflect.ValueOf(h)), were) {
			t.Errorf("%s: what was handed in is changed", name)
		}
		if span.Text(first.S) != span.Text(second.S) || span.Text(span.Point(first.D)) != span.Text(span.Point(second.D)) || ratio.Text(first.R) != ratio.Text(second.R) {
			t.Errorf("%s: answers unlike each other", name)
		}
	}
}
