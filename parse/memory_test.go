package parse_test

import (
	"reflect"
	"slices"
	"strings"
	"testing"

	"girdle/model"
	"girdle/parse"
)

// P1

func TestNoCallPanics(t *testing.T) {
	var none *parse.Wrong
	if none.Error() != "" || none.Unwrap() != nil {
		t.Error("a Wrong that isn't there tells something")
	}
	list := tokens(sample)
	pieces := slices.Concat(list, []string{"\n", "\n", "@", "1/0", "0.5", "#", "-", "from", "=", strings.Repeat("9", 5000)})
	seed := uint64(11)
	next := func(n int) int {
		seed = seed*6364136223846793005 + 1442695040888963407
		return int(seed>>33) % n
	}
	for range 20000 {
		words := slices.Clone(list)
		for range 1 + next(4) {
			at, other := next(len(words)), pieces[next(len(pieces))]
			switch next(3) {
			case 0:
				words[at] = other
			case 1:
				words = slices.Insert(words, at, other)
			default:
				words = slices.Delete(words, at, at+1)
			}
		}
		s := strings.Join(words, " ")
		m, err := parse.Parse(s)
		if err == nil {
			reads(t, s, m) // and it may be
		} else if w, ok := err.(*parse.Wrong); !ok || w.At < 0 || w.At > len(s) {
			t.Fatalf("%q: %v", s, err)
		} else {
			refused(t, s, errnoOf(w), w.At)
		}
	}
	for size := range 400 {
		bytes := make([]byte, size)
		for i := range bytes {
			bytes[i] = byte(next(256))
			if size%4 > 0 {
				bytes[i] = sample[next(len(sample))]
			}
		}
		parse.Parse(string(bytes))
		parse.Parse(sample[:size%len(sample)] + string(bytes))
	}
	for _, s := range []string{"[", "c [1,", "A [;", "start []+", "never [1]>=1 from 1 to 1\n", "dim 1\n", "\n", "a", "1", "B[" + strings.Repeat("9", 4900) + ";"} {
		for _, size := range []int{100, maxText / 8, maxText, 1 << 22} {
			parse.Parse(strings.Repeat(s, 1+size/len(s)))
			parse.Parse(strings.Repeat(s, size/len(s)))
			parse.Parse(s[:1] + strings.Repeat(s[1:], size/len(s)))
		}
	}
}

// P2

// room is where a list's memory begins, and where it ends, its spare room too.
type room struct{ from, to uintptr }

// rooms is the memory of all lists within a value.
func rooms(v reflect.Value) []room {
	var list []room
	switch v.Kind() {
	case reflect.Struct:
		for i := range v.NumField() {
			list = append(list, rooms(v.Field(i))...)
		}
	case reflect.Slice:
		if size := uintptr(v.Cap()) * v.Type().Elem().Size(); size > 0 {
			list = append(list, room{v.Pointer(), v.Pointer() + size})
		}
		for i := range v.Len() {
			list = append(list, rooms(v.Index(i))...)
		}
	}
	return list
}

func TestModelsAreNewMemory(t *testing.T) {
	none := strings.NewReplacer("inputs 1", "inputs 0", "[0; 1]", "[]", "[0.5] + [1/10]", "[] + []").Replace(sample)
	var models []model.Model
	for _, s := range []string{sample, sample, none, none} {
		m, err := parse.Parse(s)
		if err != nil {
			t.Fatal(err)
		}
		models = append(models, m)
	}
	list := rooms(reflect.ValueOf(models))
	slices.SortFunc(list, func(a, b room) int { return int(a.from) - int(b.from) })
	for i := range list[1:] {
		if list[i].to > list[i+1].from {
			t.Fatal("memory is shared")
		}
	}
	if !model.Same(models[0], meant()) || !model.Same(models[0], models[1]) {
		t.Error("answers unlike each other")
	}
}

func TestFaultsAreNewMemory(t *testing.T) {
	for _, s := range []string{"@", "what 3", "", strings.Replace(sample, "step 1/10", "step 0", 1)} {
		_, first := parse.Parse(s)
		_, second := parse.Parse(s)
		a, b := first.(*parse.Wrong), second.(*parse.Wrong)
		if a == b || *a != *b {
			t.Errorf("%q: %v and %v", s, a, b)
		}
	}
}
