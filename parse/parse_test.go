package parse_test

import (
	"errors"
	"io"
	"math"
	"reflect"
	"slices"
	"strconv"
	"strings"
	"testing"

	"girdle/api"
	"girdle/model"
	"girdle/parse"
	"girdle/ratio"
)

// The bounds as the document tells them.
const (
	maxText   = 65536
	maxTokens = 16384
	maxDigits = 4900
	maxPlaces = 1000
	maxDim    = 16
	maxGens   = 32
	maxClaims = 32
)

// sample is a text with all words.
const sample = "dim 2\ninputs 1\nA [0, 1; -1, 0]\nB [0; 1]\nc [0, 1/2]\nstart [1, 0] + [1/10, 0] + [0, -1/10]\ninput [0.5] + [1/10]\nhorizon 3/2\nstep 1/10\nnever [1, -2] >= 3 from 0 to 1\nalways [0, 1] <= 5 from 1/4 to 3/2\n"

// rats is a list of a text: ratios with blanks between.
func rats(text string) []api.Rat {
	var list []api.Rat
	for _, word := range strings.Fields(text) {
		list = append(list, rat(word))
	}
	return list
}

// rat is the ratio of a text.
func rat(word string) api.Rat {
	x, e := ratio.Parse(word)
	if e != api.OK {
		panic("a test's ratio is wrong")
	}
	return x
}

// rows is a table of a text: rows with a ; behind each.
func rows(text string) [][]api.Rat {
	var table [][]api.Rat
	for text != "" {
		var row string
		row, text, _ = strings.Cut(text, ";")
		table = append(table, rats(row))
	}
	return table
}

// meant is the model that the sample tells.
func meant() model.Model {
	return model.Model{
		Dim: 2, Inputs: 1,
		A: rows("0 1;-1 0;"), B: rows("0;1;"), C: rats("0 1/2"),
		Start:   model.Zono{Center: rats("1 0"), Gens: rows("1/10 0;0 -1/10;")},
		Input:   model.Zono{Center: rats("1/2"), Gens: rows("1/10;")},
		Horizon: rat("3/2"), Step: rat("1/10"),
		Claims: []model.Claim{
			{Never: true, Dir: rats("1 -2"), Bound: rat("3"), From: rat("0"), To: rat("1")},
			{Never: false, Dir: rats("0 1"), Bound: rat("5"), From: rat("1/4"), To: rat("3/2")},
		},
	}
}

// changed is the sample with another text in place of one that is there once.
func changed(t *testing.T, old, new string) string {
	t.Helper()
	if strings.Count(sample, old) != 1 {
		t.Fatalf("%q isn't in the sample once", old)
	}
	return strings.Replace(sample, old, new, 1)
}

// reads tells whether a text is read as that model.
func reads(t *testing.T, s string, want model.Model) {
	t.Helper()
	got, err := parse.Parse(s)
	if err != nil || !model.Same(got, want) {
		t.Errorf("%.200q: %v (%v), not %v", s, got, err, want)
	}
	if e := model.Check(want); e != api.OK {
		t.Errorf("%.200q: the model wanted has error %d", s, e)
	}
}

// refused tells whether a text has that error at that byte, and no model.
func refused(t *testing.T, s string, why api.Errno, at int) {
	t.Helper()
	m, err := parse.Parse(s)
	if !reflect.DeepEqual(m, model.Model{}) {
		t.Errorf("%.200q: a model beside error %v", s, err)
	}
	var w *parse.Wrong
	if !errors.As(err, &w) {
		t.Errorf("%.200q: %v is no Wrong", s, err)
		return
	}
	if w.At != at || w.Err != error(why) || !errors.Is(err, why) || err.Error() != "byte "+strconv.Itoa(at) {
		t.Errorf("%.200q: %v at %d (%v), not %v at %d", s, w.Err, w.At, err, why, at)
	}
}

// P11.1

func TestWrong(t *testing.T) {
	for _, at := range []int{0, 5, 65536, -7, math.MaxInt, math.MinInt} {
		for _, why := range []error{api.ErrForm, api.ErrSteps, io.EOF, nil} {
			w := &parse.Wrong{At: at, Err: why}
			if w.Error() != "byte "+strconv.Itoa(at) || w.Unwrap() != why {
				t.Errorf("%d, %v: %q, %v", at, why, w.Error(), w.Unwrap())
			}
		}
	}
	within := &parse.Wrong{At: 1, Err: &parse.Wrong{At: 2, Err: api.ErrTwice}}
	var e api.Errno
	if !errors.Is(within, api.ErrTwice) || errors.Is(within, api.ErrForm) || !errors.As(within, &e) || e != api.ErrTwice {
		t.Error("what is wrapped isn't found")
	}
}

func TestParse(t *testing.T) { reads(t, sample, meant()) }

func TestFaultsOfTokens(t *testing.T) {
	for s, at := range map[string]int{"@": 0, "dim @": 4, "dim 1/": 4, "what 3\n@": 7, "dim 2\ndim 2\n  3.": 14, "dim 17\n>": 7, "dim 2 2 2 -": 10, "\n\n é": 3} {
		refused(t, s, api.ErrForm, at)
		refused(t, sample+s, api.ErrForm, len(sample)+at)
	}
	refused(t, strings.Repeat(" ", maxText+1), api.ErrLong, maxText)
	refused(t, "what"+strings.Repeat(" ", maxText), api.ErrLong, maxText)
	refused(t, strings.Repeat("a ", maxTokens+1), api.ErrLong, 2*maxTokens)
	refused(t, sample+strings.Repeat("\n", maxTokens), api.ErrLong, len(sample)+maxTokens-len(tokens(sample)))
}

// tokens is the sample's tokens (or those of a text like it), line ends too.
func tokens(s string) []string {
	for _, sign := range []string{"[", "]", ",", ";"} {
		s = strings.ReplaceAll(s, sign, " "+sign+" ")
	}
	return strings.FieldsFunc(strings.ReplaceAll(s, "\n", " \n "), func(r rune) bool { return r == ' ' })
}

func TestLinesApart(t *testing.T) {
	for _, s := range []string{
		strings.TrimSuffix(sample, "\n"),
		strings.ReplaceAll(sample, "\n", "\n\n\n"),
		strings.ReplaceAll(sample, "\n", "\r\n"),
		strings.ReplaceAll(sample, "\n", " # so; what @ 1/\n\t\n# [\n"),
		strings.ReplaceAll(sample, " ", "\t \r"),
		"\n\n" + sample + "\n\n",
		"# a system\n" + sample + "# its end",
		strings.Join(tokens(sample), " "),
		strings.NewReplacer(", ", ",", "; ", ";", "] ", "]", " [", "[", "= ", "=").Replace(sample),
	} {
		reads(t, s, meant())
	}
	// Without a Line between, a line goes on.
	for i := range len(sample) - 1 {
		if sample[i] == '\n' {
			refused(t, sample[:i]+" "+sample[i+1:], api.ErrForm, i+1)
		}
	}
	// A Line within one ends it; ahead of a way it ends a set, and the way begins no line.
	for i := range sample {
		if sample[i] == ' ' {
			at := i
			if sample[i+1] == '+' {
				at++
			}
			refused(t, sample[:i]+"\n"+sample[i+1:], api.ErrForm, at)
		}
	}
}

func TestFirstOfSeveralErrors(t *testing.T) {
	for _, x := range []struct {
		s   string
		why api.Errno
		at  int
	}{
		{"what 3\n3", api.ErrKind, 0},
		{"3\nwhat 3", api.ErrForm, 0},
		{"dim 17 3\nwhat", api.ErrRange, 4},
		{"dim 1/0 3", api.ErrZero, 4},
		{"dim 3 17\ndim 3", api.ErrForm, 6},
		{"c [1/0, 2", api.ErrZero, 3},
		{"c [1 1/0", api.ErrForm, 5},
		{"step 1\nstep 1/0", api.ErrTwice, 7},
		{"step 1\nstep\nwhat", api.ErrTwice, 7},
		{"dim 0\nstep -1\ninputs 17", api.ErrRange, 21},
		{"what what what", api.ErrKind, 0},
		{"never [1] >= 2 from 3 to 1/0 now", api.ErrZero, 25},
		{"never [1] <= 1/0 from 3", api.ErrForm, 10},
	} {
		refused(t, x.s, x.why, x.at)
	}
}

// P11.2

func TestLinesBeginWithWords(t *testing.T) {
	for _, begin := range []string{"2", "-1/2", "[", "]", ",", ";", "+", "=", ">=", "<=", "[1] >= 2", "= dim 2", "2 dim"} {
		refused(t, begin, api.ErrForm, 0)
		refused(t, "\n # a\n"+begin, api.ErrForm, 6)
		refused(t, sample+begin, api.ErrForm, len(sample))
		refused(t, begin+"\n"+sample, api.ErrForm, 0)
	}
}

func TestWordsThatAreNone(t *testing.T) {
	for _, word := range []string{"what", "Dim", "DIM", "dims", "di", "a", "b", "C", "AA", "from", "to", "Never", "alway", "e"} {
		refused(t, word, api.ErrKind, 0)
		refused(t, word+" 3", api.ErrKind, 0)
		refused(t, sample+" "+word+" [1]", api.ErrKind, len(sample)+1)
	}
}

func TestWordsTwice(t *testing.T) {
	lines := strings.SplitAfter(sample, "\n")
	for _, line := range lines[:9] {
		word, _, _ := strings.Cut(line, " ")
		refused(t, sample+line, api.ErrTwice, len(sample))
		refused(t, line+"\n"+line, api.ErrTwice, len(line)+1)
		refused(t, line+" "+word+" =", api.ErrTwice, len(line)+1)
		refused(t, line+word, api.ErrTwice, len(line))
	}
	m := meant()
	m.Claims = append(m.Claims, m.Claims[0], m.Claims[1], m.Claims[1], m.Claims[0])
	reads(t, sample+lines[9]+lines[10]+lines[10]+lines[9], m)
}

func TestCounts(t *testing.T) {
	for n := range maxDim + 1 {
		for _, text := range []string{"", "0", "00", "/1", "/01", ".0", ".00"} {
			word := strconv.Itoa(n) + text
			if text == "0" || text == "00" {
				word = text + strconv.Itoa(n)
			}
			for _, line := range []string{"dim ", "inputs "} {
				refused(t, line+word, api.ErrMissing, len(line+word)) // the line itself is read
			}
		}
		double := strconv.Itoa(2*n) + "/2"
		refused(t, "inputs "+double, api.ErrMissing, len("inputs "+double))
	}
	for word, why := range map[string]api.Errno{
		"17": api.ErrRange, "18": api.ErrRange, "-1": api.ErrRange, "-16": api.ErrRange, "1/2": api.ErrRange, "16.5": api.ErrRange, "0.1": api.ErrRange, "-0.1": api.ErrRange, "15.999999999999999999999": api.ErrRange, "33/2": api.ErrRange, "4294967296": api.ErrRange, "18446744073709551617": api.ErrRange, "18446744073709551616/3": api.ErrRange,
		"1/0": api.ErrZero, "17/0": api.ErrZero, "0/0": api.ErrZero, "-1/00": api.ErrZero,
		strings.Repeat("9", maxDigits): api.ErrRange, strings.Repeat("9", maxDigits+1): api.ErrLong, "1/" + strings.Repeat("9", maxDigits): api.ErrRange, "1/" + strings.Repeat("9", maxDigits+1): api.ErrLong, strings.Repeat("0", maxDigits+1): api.ErrLong,
		"2." + strings.Repeat("0", maxPlaces+1): api.ErrLong, "2." + strings.Repeat("1", maxPlaces): api.ErrRange,
	} {
		refused(t, "dim "+word+"\n", why, 4)
		refused(t, "\ninputs  "+word+" 3", why, 9)
	}
	refused(t, "dim -0", api.ErrMissing, 6)
	refused(t, "dim 2."+strings.Repeat("0", maxPlaces), api.ErrMissing, 6+maxPlaces)
	for behind, at := range map[string]int{"a": 4, "[": 4, "=": 4, "+": 4, "\n1": 4, "": 4, " ": 5, "# 1": 7, "# 1\n": 7, " -1/2 3": 5} {
		why := api.ErrForm
		if strings.Contains(behind, "/") {
			why = api.ErrRange
		}
		refused(t, "dim "+behind, why, at)
	}
}

func TestNumbersOfLayer4(t *testing.T) {
	// Each number of the sample is replaced; the counts are told of above.
	from := strings.Index(sample, "A [")
	for i := from; i < len(sample); i++ {
		if strings.IndexByte("-0123456789", sample[i]) < 0 || strings.IndexByte(" [", sample[i-1]) < 0 {
			continue
		}
		end := i + strings.IndexAny(sample[i:], " ,;]\n")
		for word, why := range map[string]api.Errno{"1/0": api.ErrZero, "-0/000": api.ErrZero, strings.Repeat("1", maxDigits+1): api.ErrLong, "3/" + strings.Repeat("0", maxDigits+1): api.ErrLong, "0." + strings.Repeat("0", maxPlaces+1): api.ErrLong} {
			refused(t, sample[:i]+word+sample[end:], why, i)
		}
		for _, word := range []string{"x", "=", ">=", "<=", "+"} {
			refused(t, sample[:i]+word+sample[end:], api.ErrForm, i)
		}
	}
	m := meant()
	m.C = rats("-5/4 1/3")
	reads(t, changed(t, "[0, 1/2]", "[-1.250, 0111/333]"), m)
	m.C = []api.Rat{rat(strings.Repeat("9", maxDigits)), rat("-0." + strings.Repeat("3", maxPlaces))}
	reads(t, changed(t, "[0, 1/2]", "["+strings.Repeat("9", maxDigits)+", -0."+strings.Repeat("3", maxPlaces)+"]"), m)
}

func TestOrderOfLines(t *testing.T) {
	lines := strings.SplitAfter(strings.TrimSuffix(sample, "\n"), "\n")
	lines[10] += "\n"
	for i := range lines {
		m := meant()
		if i == 10 { // the last claim goes ahead of the other one
			slices.Reverse(m.Claims)
		}
		reads(t, strings.Join(lines[i:], "")+strings.Join(lines[:i], ""), m)
	}
	m := meant()
	slices.Reverse(m.Claims)
	slices.Reverse(lines)
	reads(t, strings.Join(lines, ""), m)
	m.Claims = nil
	reads(t, strings.Join(lines[2:], ""), m)
	reads(t, changed(t, "[1/10, 0] + [0, -1/10]", "[0, -1/10] + [1/10, 0]"), func() model.Model {
		m := meant()
		slices.Reverse(m.Start.Gens)
		return m
	}())
	m = meant()
	m.Start.Gens, m.Input.Gens = nil, nil
	reads(t, strings.Replace(changed(t, " + [1/10, 0] + [0, -1/10]", ""), " + [1/10]", "", 1), m)
}

func TestNoInputs(t *testing.T) {
	for dim := 1; dim <= maxDim; dim++ {
		zeros := strings.TrimSuffix(strings.Repeat("0, ", dim), ", ")
		table := strings.TrimSuffix(strings.Repeat(zeros+"; ", dim), "; ")
		list := []string{"dim " + strconv.Itoa(dim), "inputs 0", "A [" + table + "]", "B []", "c [" + zeros + "]", "start [" + zeros + "]", "input [] + []", "horizon 1", "step 1"}
		want := model.Model{
			Dim: dim, A: rows(strings.Repeat(strings.Repeat("0 ", dim)+";", dim)), B: make([][]api.Rat, dim), C: rats(strings.Repeat("0 ", dim)),
			Start: model.Zono{Center: rats(strings.Repeat("0 ", dim))}, Input: model.Zono{Gens: make([][]api.Rat, 1)}, Horizon: rat("1"), Step: rat("1"),
		}
		for range list {
			list = append(list[1:], list[0])
			reads(t, strings.Join(list, "\n"), want)
		}
		list[3] = "B [" + strings.Repeat(";", dim-1) + "]"
		reads(t, strings.Join(list, "\n"), want)
		for _, other := range []int{dim + 1, dim + 2, max(2, dim-1)} {
			if other != dim {
				list[3] = "B [" + strings.Repeat(";", other-1) + "]"
				s := strings.Join(list, "\n")
				refused(t, s, api.ErrShape, len(s))
			}
		}
		list[1], list[3], list[6] = "inputs 1", "B []", "input [0]"
		s := strings.Join(list, "\n")
		refused(t, s, api.ErrShape, len(s))
	}
	for _, s := range []string{changed(t, "[0; 1]", "[]"), changed(t, "[0; 1]", "[;]"), changed(t, "[0, 1; -1, 0]", "[]"), changed(t, "[0, 1; -1, 0]", "[;]"), changed(t, "inputs 1", "inputs 0"), changed(t, "dim 2", "dim 0")} {
		refused(t, s, api.ErrShape, len(s))
	}
}

// P11.3

func TestMissing(t *testing.T) {
	lines := strings.SplitAfter(sample, "\n")
	for i := range 9 {
		s := strings.Join(slices.Concat(lines[:i], lines[i+1:]), "")
		for _, behind := range []string{"", "\n\n", "# so", "  "} {
			refused(t, s+behind, api.ErrMissing, len(s+behind))
		}
		only := lines[i]
		refused(t, only, api.ErrMissing, len(only))
		// That one is missing is told of ahead of what the model is.
		s = strings.Replace(s, "from 0", "from -1", 1)
		refused(t, s, api.ErrMissing, len(s))
	}
	for _, s := range []string{"", "\n", " ", "# so", "\n\n# so\n", lines[9], lines[9] + lines[10]} {
		refused(t, s, api.ErrMissing, len(s))
	}
}

func TestModelsThatMayNotBe(t *testing.T) {
	for _, x := range []struct {
		old, new string
		why      api.Errno
	}{
		{"dim 2", "dim 0", api.ErrShape},
		{"dim 2", "dim 3", api.ErrShape},
		{"inputs 1", "inputs 2", api.ErrShape},
		{"A [0, 1; -1, 0]", "A [0, 1; -1]", api.ErrShape},
		{"A [0, 1; -1, 0]", "A [0, 1; -1, 0;]", api.ErrShape},
		{"A [0, 1; -1, 0]", "A [;0, 1; -1, 0]", api.ErrShape},
		{"A [0, 1; -1, 0]", "A [0, 1, -1, 0]", api.ErrShape},
		{"B [0; 1]", "B [0, 1]", api.ErrShape},
		{"c [0, 1/2]", "c [0]", api.ErrShape},
		{"c [0, 1/2]", "c []", api.ErrShape},
		{"start [1, 0]", "start []", api.ErrShape},
		{"+ [1/10, 0] +", "+ [] +", api.ErrShape},
		{"input [0.5]", "input [0.5, 0]", api.ErrShape},
		{"[0.5] + [1/10]", "[0.5] + [1/10, 1]", api.ErrShape},
		{"never [1, -2]", "never [1]", api.ErrShape},
		{"always [0, 1]", "always []", api.ErrShape},
		{"horizon 3/2", "horizon 0", api.ErrHorizon},
		{"horizon 3/2", "horizon -1", api.ErrHorizon},
		{"horizon 3/2", "horizon 1", api.ErrHorizon},
		{"step 1/10", "step 0", api.ErrHorizon},
		{"step 1/10", "step -0.1", api.ErrHorizon},
		{"from 0 to 1", "from -1 to 1", api.ErrHorizon},
		{"from 0 to 1", "from 1 to 1/2", api.ErrHorizon},
		{"from 0 to 1", "from 0 to 2", api.ErrHorizon},
		{"step 1/10", "step 1/10000", api.ErrSteps},
		{"[0.5]", "[0.5]" + strings.Repeat(" + [1]", maxGens), api.ErrLong},
		{"+ [0, -1/10]", strings.Repeat("+ [0, -1/10]", maxGens), api.ErrLong},
	} {
		s := changed(t, x.old, x.new)
		for _, behind := range []string{"", "\n \n", "# so"} {
			refused(t, s+behind, x.why, len(s+behind))
		}
	}
	claim := "never [1, -2] >= 3 from 0 to 1\n"
	s := sample + strings.Repeat(claim, maxClaims-1)
	refused(t, s, api.ErrLong, len(s))
	m := meant()
	for range maxClaims - 2 {
		m.Claims = append(m.Claims, m.Claims[0])
	}
	reads(t, sample+strings.Repeat(claim, maxClaims-2), m)
	m = meant()
	for range maxGens - 2 {
		m.Start.Gens = append(m.Start.Gens, rats("0 -1/10"))
	}
	reads(t, changed(t, "+ [0, -1/10]", strings.Repeat("+ [0, -1/10]", maxGens-1)), m)
}

// errnoOf is the number that a Wrong wraps.
func errnoOf(w *parse.Wrong) api.Errno {
	var e api.Errno
	errors.As(w, &e)
	return e
}
