package span_test

import (
	"slices"
	"testing"

	"girdle/api"
	"girdle/dyad"
	"girdle/ratio"
	"girdle/span"
)

// P2

// call is a call of two spans, or of one; its answer is all lists of what it answered.
type call struct {
	name string
	do   func(a, b api.Span) []api.Nat
}

// lists is the lists of a span.
func lists(a api.Span) []api.Nat { return []api.Nat{a.Lo.Man.Size, a.Hi.Man.Size} }

// calls is all calls that answer numbers.
func calls() []call {
	one := func(f func(a api.Span) api.Span) func(a, b api.Span) []api.Nat {
		return func(a, b api.Span) []api.Nat { return lists(f(a)) }
	}
	both := func(f func(a, b api.Span) (api.Span, api.Errno)) func(a, b api.Span) []api.Nat {
		return func(a, b api.Span) []api.Nat {
			c, _ := f(a, b)
			return lists(c)
		}
	}
	number := func(f func(a api.Span) (api.Dyad, api.Errno)) func(a, b api.Span) []api.Nat {
		return func(a, b api.Span) []api.Nat {
			c, _ := f(a)
			return []api.Nat{c.Man.Size}
		}
	}
	list := []call{
		{"Make", both(func(a, b api.Span) (api.Span, api.Errno) { return span.Make(a.Lo, a.Hi) })},
		{"Make of one number", both(func(a, b api.Span) (api.Span, api.Errno) { return span.Make(a.Lo, a.Lo) })},
		{"Point", one(func(a api.Span) api.Span { return span.Point(a.Lo) })},
		{"Even", one(func(a api.Span) api.Span { return span.Even(a.Lo) })},
		{"Neg", one(span.Neg)},
		{"Hull", one(func(a api.Span) api.Span { return span.Hull(a, a) })},
		{"Hull of two", both(func(a, b api.Span) (api.Span, api.Errno) { return span.Hull(a, b), api.OK })},
		{"Meet", both(span.Meet)},
		{"Size", number(func(a api.Span) (api.Dyad, api.Errno) { return span.Size(a), api.OK })},
		{"Width", number(span.Width)},
		{"Middle", number(span.Middle)},
	}
	for _, bits := range []int{1, 2, 40, 4096} {
		list = append(list,
			call{"Near", both(func(a, b api.Span) (api.Span, api.Errno) { return span.Near(ratio.Of(-7, 3), bits) })},
			call{"Round", both(func(a, b api.Span) (api.Span, api.Errno) { return span.Round(a, bits) })},
			call{"Add", both(func(a, b api.Span) (api.Span, api.Errno) { return span.Add(a, b, bits) })},
			call{"Sub", both(func(a, b api.Span) (api.Span, api.Errno) { return span.Sub(a, b, bits) })},
			call{"Mul", both(func(a, b api.Span) (api.Span, api.Errno) { return span.Mul(a, b, bits) })},
			call{"Sum of none", both(func(a, b api.Span) (api.Span, api.Errno) { return span.Sum(bits) })},
			call{"Sum of one", both(func(a, b api.Span) (api.Span, api.Errno) { return span.Sum(bits, a) })},
			call{"Sum", both(func(a, b api.Span) (api.Span, api.Errno) { return span.Sum(bits, a, b, a) })})
	}
	return list
}

// roomy is a number whose list has spare room, that isn't empty.
func roomy(a api.Dyad) api.Dyad {
	a.Man.Size = append(slices.Clone(a.Man.Size), 77, 78, 79, 80)[:len(a.Man.Size)]
	return a
}

// spoil writes over a list, and its spare room.
func spoil(a api.Nat) {
	a = a[:cap(a)]
	for i := range a {
		a[i] ^= 0xa5a5a5a5
	}
}

// copies is copies of lists; with their spare room, if that is asked for.
func copies(a []api.Nat, spare bool) []api.Nat {
	var b []api.Nat
	for _, x := range a {
		if spare {
			x = x[:cap(x)]
		}
		b = append(b, slices.Clone(x))
	}
	return b
}

// equal holds lists against each other.
func equal(a, b []api.Nat) bool {
	return slices.EqualFunc(a, b, func(x, y api.Nat) bool { return slices.Equal(x, y) })
}

// apart tells whether a call leaves its arguments alone, and whether its answers are memory of their own.
func apart(t *testing.T, c call, x, y api.Span) {
	t.Helper()
	a, b := to(roomy(x.Lo), roomy(x.Hi)), to(roomy(y.Lo), roomy(y.Hi))
	handed := append(lists(a), lists(b)...)
	were := copies(handed, true)
	first := c.do(a, b)
	kept := copies(first, false)
	for i := range first {
		earlier, spoilt := c.do(a, b), c.do(a, b)
		spoil(spoilt[i])
		for j := range spoilt {
			if j != i && !slices.Equal(spoilt[j], kept[j]) {
				t.Fatalf("%s: what it answers shares memory", c.name)
			}
		}
		if !equal(copies(handed, true), were) {
			t.Fatalf("%s: what was handed in is changed, or shared with an answer", c.name)
		}
		if !equal(earlier, kept) || !equal(c.do(a, b), kept) {
			t.Fatalf("%s: answers of two calls share memory", c.name)
		}
	}
	for _, list := range handed {
		spoil(list)
	}
	if !equal(first, kept) {
		t.Fatalf("%s keeps what was handed in", c.name)
	}
}

func TestMemory(t *testing.T) {
	list := append(few(-2, 2), to(at(-1<<40+1, 3), at(1<<50+1, -3)), to(at(1, -100), at(1<<62+1, 20)), to(at(3, maxExp), at(5, maxExp)))
	for _, c := range calls() {
		for _, x := range list {
			for _, y := range list {
				apart(t, c, x, y)
			}
		}
	}
}

// TestOneSpanTwice hands in the same memory as both spans.
func TestOneSpanTwice(t *testing.T) {
	for _, a := range few(-3, 3) {
		lo, hi := small(t, a.Lo), small(t, a.Hi)
		got, e := span.Add(a, a, 20)
		answers(t, "Add", got, e, of(2*lo, 2*hi), api.OK)
		got, e = span.Sub(a, a, 20)
		answers(t, "Sub", got, e, of(lo-hi, hi-lo), api.OK)
		got, e = span.Mul(a, a, 20)
		answers(t, "Mul", got, e, of(min(lo*lo, lo*hi, hi*hi), max(lo*lo, hi*hi)), api.OK)
		got, e = span.Meet(a, a)
		answers(t, "Meet", got, e, a, api.OK)
		if !span.Holds(a, a) {
			t.Errorf("%s doesn't hold itself", span.Text(a))
		}
	}
}

// TestAsking is of the calls that answer no number: they leave what is handed in alone too.
func TestAsking(t *testing.T) {
	a, b := of(-21, 33), of(-5, 1<<40)
	r := ratio.Of(-5, 12)
	list := []api.Span{a, b, a}
	span.Check(a)
	span.Has(a, b.Lo)
	span.Holds(a, b)
	span.HasRatio(a, r)
	span.Near(r, 5)
	span.Text(a)
	span.Sum(3, list...)
	is(t, "the first", list[0], of(-21, 33))
	is(t, "the second", list[1], of(-5, 1<<40))
	is(t, "the third", list[2], a)
	same(t, "an end", a.Lo, dyad.Of(-21, 0))
	if ratio.Text(r) != "-5/12" {
		t.Error("a ratio was changed")
	}
}
