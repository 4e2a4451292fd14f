package show_test

import (
	"math"
	"reflect"
	"slices"
	"strconv"
	"strings"
	"testing"

	"girdle/api"
	"girdle/limbs"
	"girdle/model"
	"girdle/parse"
	"girdle/ratio"
	"girdle/show"
	"girdle/whole"
)

// The bounds as the document tells them.
const (
	maxLimbs  = 512
	maxDigits = 4900
	maxDim    = 16
	maxGens   = 32
	maxClaims = 32
)

// rat is the ratio of a text.
func rat(word string) api.Rat {
	x, e := ratio.Parse(word)
	if e != api.OK {
		panic("a test's ratio is wrong")
	}
	return x
}

// rats is a list of a text: ratios with blanks between.
func rats(text string) []api.Rat {
	var list []api.Rat
	for _, word := range strings.Fields(text) {
		list = append(list, rat(word))
	}
	return list
}

// rows is a table of a text: rows with a ; behind each.
func rows(text string) [][]api.Rat {
	var table [][]api.Rat
	for text != "" {
		var row string
		row, text, _ = strings.Cut(text, ";")
		table = append(table, rats(row))
	}
	return table
}

// common is a model of two states.
func common() model.Model {
	return model.Model{
		Dim: 2, Inputs: 1,
		A: rows("0 1;-1 0.25;"), B: rows("0;-7/3;"), C: rats("0 1/2"),
		Start:   model.Zono{Center: rats("1 0"), Gens: rows("1/10 0;0 -1/10;")},
		Input:   model.Zono{Center: rats("6/4"), Gens: rows("12345678901234567890;")},
		Horizon: rat("3/2"), Step: rat("0.1"),
		Claims: []model.Claim{
			{Never: true, Dir: rats("1 -2"), Bound: rat("-3"), From: rat("0"), To: rat("1")},
			{Never: false, Dir: rats("0 1/7"), Bound: rat("5"), From: rat("1/4"), To: rat("1.5")},
			{Never: true, Dir: rats("0 0"), Bound: rat("0"), From: rat("1"), To: rat("1")},
		},
	}
}

// commonText is its text.
const commonText = "dim 2\ninputs 1\nA [0, 1; -1, 1/4]\nB [0; -7/3]\nc [0, 1/2]\nstart [1, 0] + [1/10, 0] + [0, -1/10]\ninput [3/2] + [12345678901234567890]\nhorizon 3/2\nstep 1/10\nnever [1, -2] >= -3 from 0 to 1\nalways [0, 1/7] <= 5 from 1/4 to 3/2\nnever [0, 0] >= 0 from 1 to 1\n"

// mixer makes ratios that look like no others, the same in every run.
type mixer struct{ seed uint64 }

// list is so many of them.
func (m *mixer) list(n int) []api.Rat {
	list := make([]api.Rat, n)
	for i := range list {
		m.seed = m.seed*6364136223846793005 + 1442695040888963407
		list[i] = ratio.Of(int64(m.seed>>48)-1<<15, int64(m.seed>>20&255)+1)
	}
	return list
}

// table is so many lists of so many.
func (m *mixer) table(rows, cols int) [][]api.Rat {
	table := make([][]api.Rat, rows)
	for i := range table {
		table[i] = m.list(cols)
	}
	return table
}

// sized is a model that may be, of so many states, inputs, ways of each set, and claims.
func sized(dim, inputs, ways, claims int) model.Model {
	m := mixer{uint64(dim*100 + inputs)}
	made := model.Model{
		Dim: dim, Inputs: inputs,
		A: m.table(dim, dim), B: m.table(dim, inputs), C: m.list(dim),
		Start:   model.Zono{Center: m.list(dim), Gens: m.table(ways, dim)},
		Input:   model.Zono{Center: m.list(inputs), Gens: m.table(ways, inputs)},
		Horizon: rat("7/3"), Step: rat("1/5"),
	}
	for i := range claims {
		from := ratio.Of(int64(i), int64(claims+1))
		made.Claims = append(made.Claims, model.Claim{Never: i%2 == 1, Dir: m.list(dim), Bound: m.list(1)[0], From: from, To: rat("2")})
	}
	return made
}

// written tells whether a model is written as that text.
func written(t *testing.T, m model.Model, want string) {
	t.Helper()
	if got, e := show.Text(m); got != want || e != api.OK {
		t.Errorf("%.300s, error %d, not %.300s", got, e, want)
	}
}

// refused tells whether a model has that error, and no text.
func refused(t *testing.T, what string, m model.Model, want api.Errno) {
	t.Helper()
	if got, e := show.Text(m); got != "" || e != want {
		t.Errorf("%s: %.300q, error %d, not %d", what, got, e, want)
	}
}

// isReadAgain tells whether a model's text is read as that model.
func isReadAgain(t *testing.T, m model.Model) {
	t.Helper()
	text, e := show.Text(m)
	if e != api.OK {
		t.Errorf("error %d of %.300v", e, m)
	}
	again, err := parse.Parse(text)
	if err != nil || !model.Same(m, again) {
		t.Errorf("%.300s is read as %.300v, %v", text, again, err)
	}
	if twice, e := show.Text(again); e != api.OK || twice != text {
		t.Errorf("%.300s is written again as %.300s", text, twice)
	}
}

// P12.1

func TestText(t *testing.T) {
	written(t, common(), commonText)
	isReadAgain(t, common())
	m := common()
	m.Claims = nil
	written(t, m, commonText[:strings.Index(commonText, "never")])
	isReadAgain(t, m)
	m.Start.Gens, m.Input.Gens = nil, nil
	s := strings.Replace(commonText[:strings.Index(commonText, "never")], " + [1/10, 0] + [0, -1/10]", "", 1)
	written(t, m, strings.Replace(s, " + [12345678901234567890]", "", 1))
	isReadAgain(t, m)
}

func TestTextOfOneState(t *testing.T) {
	m := model.Model{
		Dim: 1, Inputs: 2, A: rows("-1;"), B: rows("1 -2/3;"), C: rats("0"),
		Start: model.Zono{Center: rats("5")}, Input: model.Zono{Center: rats("1 2"), Gens: rows("0 0;3 4;0 0;")}, Horizon: rat("10"), Step: rat("3"),
		Claims: []model.Claim{{Dir: rats("-1"), Bound: rat("1/3"), From: rat("9.75"), To: rat("10")}},
	}
	written(t, m, "dim 1\ninputs 2\nA [-1]\nB [1, -2/3]\nc [0]\nstart [5]\ninput [1, 2] + [0, 0] + [3, 4] + [0, 0]\nhorizon 10\nstep 3\nalways [-1] <= 1/3 from 39/4 to 10\n")
	isReadAgain(t, m)
}

func TestTextOfNoInputs(t *testing.T) {
	for dim := 1; dim <= maxDim; dim++ {
		for ways := range 3 {
			m := sized(dim, 0, ways, 1)
			text, e := show.Text(m)
			if e != api.OK || !strings.Contains(text, "\nB []\n") || !strings.Contains(text, "\ninputs 0\n") || !strings.Contains(text, "\ninput []"+strings.Repeat(" + []", ways)+"\n") {
				t.Errorf("%d states, %d ways: %s, error %d", dim, ways, text, e)
			}
			isReadAgain(t, m)
			m.B, m.Input.Center = slices.Repeat([][]api.Rat{{}}, dim), []api.Rat{}
			written(t, m, text)
		}
	}
}

func TestTextOfModelsThatMayNotBe(t *testing.T) {
	refused(t, "none", model.Model{}, api.ErrShape)
	for what, change := range map[string]func(m *model.Model) api.Errno{
		"no states":           func(m *model.Model) api.Errno { m.Dim = 0; return api.ErrShape },
		"more states":         func(m *model.Model) api.Errno { m.Dim = 3; return api.ErrShape },
		"fewer inputs":        func(m *model.Model) api.Errno { m.Inputs = 0; return api.ErrShape },
		"inputs below 0":      func(m *model.Model) api.Errno { m.Inputs = -1; return api.ErrShape },
		"A of one row":        func(m *model.Model) api.Errno { m.A = m.A[:1]; return api.ErrShape },
		"B of none":           func(m *model.Model) api.Errno { m.B = nil; return api.ErrShape },
		"a short list":        func(m *model.Model) api.Errno { m.C = m.C[:1]; return api.ErrShape },
		"a way of none":       func(m *model.Model) api.Errno { m.Start.Gens[1] = nil; return api.ErrShape },
		"a claim of none":     func(m *model.Model) api.Errno { m.Claims[2].Dir = nil; return api.ErrShape },
		"too many ways":       func(m *model.Model) api.Errno { m.Start.Gens = slices.Repeat(m.Start.Gens, 17); return api.ErrLong },
		"too many claims":     func(m *model.Model) api.Errno { m.Claims = slices.Repeat(m.Claims, 11); return api.ErrLong },
		"a number that isn't": func(m *model.Model) api.Errno { m.A[1][1] = api.Rat{}; return api.ErrForm },
		"a number not lowest": func(m *model.Model) api.Errno {
			m.Claims[0].Bound = api.Rat{Num: whole.Of(2), Den: limbs.Of(4)}
			return api.ErrForm
		},
		"a number too long":     func(m *model.Model) api.Errno { m.C[0].Num.Size = slices.Repeat(limbs.Of(7), 513); return api.ErrLimbs },
		"no horizon":            func(m *model.Model) api.Errno { m.Horizon = rat("0"); return api.ErrHorizon },
		"a step below 0":        func(m *model.Model) api.Errno { m.Step = rat("-1"); return api.ErrHorizon },
		"a claim from below 0":  func(m *model.Model) api.Errno { m.Claims[0].From = rat("-1"); return api.ErrHorizon },
		"a claim to the beyond": func(m *model.Model) api.Errno { m.Claims[0].To = rat("2"); return api.ErrHorizon },
		"too many steps":        func(m *model.Model) api.Errno { m.Step = rat("1/5000"); return api.ErrSteps },
	} {
		m := common()
		want := change(&m)
		refused(t, what, m, want)
		if e := model.Check(m); e != want {
			t.Errorf("%s: layer 10 has error %d", what, e)
		}
	}
}

func TestTextIsReadAsItWas(t *testing.T) {
	for dim := 1; dim <= maxDim; dim += 3 {
		for inputs := 0; inputs <= maxDim; inputs += 4 {
			isReadAgain(t, sized(dim, inputs, dim+inputs, dim))
		}
	}
	isReadAgain(t, sized(maxDim, maxDim, maxGens, maxClaims))
	isReadAgain(t, sized(1, 0, 0, 0))
	isReadAgain(t, sized(1, 0, maxGens, maxClaims))
}

func TestTextOfGreatNumbers(t *testing.T) {
	most := strings.Repeat("9", maxDigits)
	for _, word := range []string{most, "-" + most, "1/" + most, "-1" + most[2:] + "/" + most, "-0." + strings.Repeat("3", 1000)} {
		m := common()
		m.C[1], m.Claims[1].Bound = rat(word), rat(word)
		text := ratio.Text(rat(word))
		written(t, m, strings.Replace(strings.Replace(commonText, "c [0, 1/2]", "c [0, "+text+"]", 1), "<= 5", "<= "+text, 1))
		isReadAgain(t, m)
	}
	// One of more digits is written, and isn't read.
	m := common()
	m.C[1] = ratio.Whole(api.Int{Size: slices.Repeat(api.Nat{math.MaxUint32}, maxLimbs)})
	text := ratio.Text(m.C[1])
	if len(text) <= maxDigits {
		t.Fatal("a test's number is too small")
	}
	written(t, m, strings.Replace(commonText, "c [0, 1/2]", "c [0, "+text+"]", 1))
}

// P12.2

func TestPoint(t *testing.T) {
	for text, want := range map[string]string{
		"": "[]", "0": "[0]", "0 1": "[0, 1]", "1 0": "[1, 0]", "-1/2 0.25 7": "[-1/2, 1/4, 7]", "6/3 -0 -4/6": "[2, 0, -2/3]", "12345678901234567890/7": "[12345678901234567890/7]",
	} {
		if got := show.Point(rats(text)); got != want {
			t.Errorf("%s: %s, not %s", text, got, want)
		}
	}
	if got := show.Point([]api.Rat{}); got != "[]" {
		t.Errorf("of none: %s", got)
	}
	var want []string
	var list []api.Rat
	for i := range 100 { // of no bound
		list = append(list, ratio.Of(int64(i), 1))
		want = append(want, strconv.Itoa(i))
	}
	if got := show.Point(list); got != "["+strings.Join(want, ", ")+"]" {
		t.Errorf("of a hundred: %s", got)
	}
}

// P1

// wrong is what can't be ratios.
func wrong() []api.Rat {
	var list []api.Rat
	for _, num := range []api.Int{{}, {Minus: true}, {Size: api.Nat{0}}, {Minus: true, Size: api.Nat{6, 0}}, {Size: slices.Repeat(api.Nat{3}, 600)}, {Size: slices.Repeat(api.Nat{math.MaxUint32}, 1<<16)}} {
		for _, den := range []api.Nat{nil, {0}, {1}, {2}, {9, 0}, slices.Repeat(api.Nat{0}, 2000), slices.Repeat(api.Nat{math.MaxUint32}, 1<<16)} {
			list = append(list, api.Rat{Num: num, Den: den})
		}
	}
	return list
}

func TestNoCallPanics(t *testing.T) {
	for _, x := range wrong() {
		show.Point([]api.Rat{x})
		for i := range 9 {
			m := common()
			*[]*api.Rat{&m.A[1][0], &m.B[0][0], &m.C[1], &m.Start.Center[0], &m.Input.Gens[0][0], &m.Horizon, &m.Step, &m.Claims[0].Bound, &m.Claims[2].To}[i] = x
			if text, e := show.Text(m); (text == "") != (e != api.OK) {
				t.Errorf("%.100q beside error %d", text, e)
			}
		}
	}
	show.Point(wrong())
	for _, m := range []model.Model{{Dim: math.MinInt, Inputs: math.MaxInt}, {Dim: math.MaxInt}, {Dim: 1}, sized(17, 17, 33, 33), {Dim: 1, Start: model.Zono{Gens: make([][]api.Rat, 100000)}, Claims: make([]model.Claim, 100000)}} {
		if text, e := show.Text(m); text != "" || e == api.OK {
			t.Errorf("%.100q, error %d", text, e)
		}
	}
}

// P2

// roomy is a copy of a value in which every list has spare room, where something stands.
func roomy(v reflect.Value) reflect.Value {
	out := reflect.New(v.Type()).Elem()
	switch v.Kind() {
	case reflect.Struct:
		for i := range v.NumField() {
			out.Field(i).Set(roomy(v.Field(i)))
		}
	case reflect.Slice:
		out.Set(reflect.MakeSlice(v.Type(), v.Len(), v.Len()+1))
		for i := range v.Len() {
			out.Index(i).Set(roomy(v.Index(i)))
		}
		if v.Len() > 0 {
			out.Slice(0, v.Len()+1).Index(v.Len()).Set(roomy(v.Index(0)))
		}
	default:
		out.Set(v)
	}
	return out
}

// unfolded is a copy of a value in which the lists' spare room belongs to them.
func unfolded(v reflect.Value) reflect.Value {
	out := reflect.New(v.Type()).Elem()
	switch v.Kind() {
	case reflect.Struct:
		for i := range v.NumField() {
			out.Field(i).Set(unfolded(v.Field(i)))
		}
	case reflect.Slice:
		full := v.Slice3(0, v.Cap(), v.Cap())
		out.Set(reflect.MakeSlice(v.Type(), full.Len(), full.Len()))
		for i := range full.Len() {
			out.Index(i).Set(unfolded(full.Index(i)))
		}
	default:
		out.Set(v)
	}
	return out
}

func TestModelsAreLeftAlone(t *testing.T) {
	late := common()
	late.Claims[2].To = rat("100")
	for _, m := range []model.Model{common(), sized(3, 0, 2, 1), late} {
		m = roomy(reflect.ValueOf(m)).Interface().(model.Model)
		were := unfolded(reflect.ValueOf(m)).Interface()
		first, e := show.Text(m)
		point := show.Point(m.C)
		second, f := show.Text(m)
		if first != second || e != f || point != show.Point(m.C) {
			t.Error("answers unlike each other")
		}
		if !reflect.DeepEqual(unfolded(reflect.ValueOf(m)).Interface(), were) {
			t.Error("a model is changed")
		}
	}
}
