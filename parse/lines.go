package parse

import (
	"girdle/api"
	"girdle/lex"
	"girdle/model"
)

// mustBe is how many words have to be there, each in one line.
const mustBe = 9

// lines reads a text's lines into a model.
type lines struct {
	reader
	there map[string]int // of the words that stand once, at which byte each stands
	m     model.Model
}

// read reads all lines, up to the End.
func (l *lines) read() {
	for l.wrong == nil {
		switch l.next().Kind {
		case lex.Line:
			l.goOn()
		case lex.End:
			l.end()
			return
		default:
			l.line()
		}
	}
}

// line reads one line, up to its end.
func (l *lines) line() {
	word := l.next()
	_, twice := l.there[word.Text]
	switch {
	case word.Kind != lex.Word:
		l.fail(word, api.ErrForm)
		return
	case twice:
		l.fail(word, api.ErrTwice)
		return
	}
	l.goOn()
	switch {
	case l.once(word.Text):
		l.there[word.Text] = word.At
	case !l.often(word.Text):
		l.fail(word, api.ErrKind)
	}
	if behind := l.next(); behind.Kind != lex.Line && behind.Kind != lex.End {
		l.fail(behind, api.ErrForm)
	}
}

// once reads what stands behind a word that is there once; false: it is none of these.
func (l *lines) once(word string) bool {
	switch word {
	case "dim":
		l.m.Dim = l.count()
	case "inputs":
		l.m.Inputs = l.count()
	case "A":
		l.m.A = l.table()
	case "B":
		l.m.B = l.table()
	case "c":
		l.m.C = l.list()
	case "start":
		l.m.Start = l.set()
	case "input":
		l.m.Input = l.set()
	case "horizon":
		l.m.Horizon = l.number()
	case "step":
		l.m.Step = l.number()
	default:
		return false
	}
	return true
}

// often reads what stands behind a word that may be there several times; false: it is none of these.
func (l *lines) often(word string) bool {
	switch word {
	case "never":
		l.m.Claims = append(l.m.Claims, l.claim(true, ">="))
	case "always":
		l.m.Claims = append(l.m.Claims, l.claim(false, "<="))
	default:
		return false
	}
	return true
}

// end asks of the model, all of whose lines are read, whether it may be.
func (l *lines) end() {
	if len(l.there) < mustBe {
		l.fail(l.next(), api.ErrMissing)
		return
	}
	// An empty table is written as one row, of however many states.
	if l.m.Inputs == 0 && len(l.m.B) == 1 && len(l.m.B[0]) == 0 {
		l.m.B = make([][]api.Rat, l.m.Dim)
	}
	if e := model.Check(l.m); e != api.OK {
		l.fail(l.next(), e)
	}
}
