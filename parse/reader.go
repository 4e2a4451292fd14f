package parse

import (
	"girdle/api"
	"girdle/lex"
	"girdle/model"
	"girdle/ratio"
	"girdle/vec"
)

// reader goes through tokens, the last of which is the End. Behind the first fault it goes no further, so that what reads several things need not ask after each.
type reader struct {
	left  []lex.Token
	wrong *Wrong
}

// next is the token that is next.
func (r *reader) next() lex.Token { return r.left[0] }

// goOn goes on behind the next token, which isn't the End.
func (r *reader) goOn() { r.left = r.left[1:] }

// fail keeps what is wrong with a token, if nothing was wrong ahead of it.
func (r *reader) fail(token lex.Token, why api.Errno) {
	if r.wrong == nil {
		r.wrong = &Wrong{At: token.At, Err: why}
	}
}

// passes goes on behind the next token, if it is that word or sign. (No token of another kind has its text.)
func (r *reader) passes(text string) bool {
	if r.wrong != nil || r.next().Text != text {
		return false
	}
	r.goOn()
	return true
}

// needs goes on behind the next token, which has to be that word or sign.
func (r *reader) needs(text string) {
	if !r.passes(text) {
		r.fail(r.next(), api.ErrForm)
	}
}

// number reads a number.
func (r *reader) number() api.Rat {
	token := r.next()
	if token.Kind != lex.Number {
		r.fail(token, api.ErrForm)
	}
	if r.wrong != nil {
		return api.Rat{}
	}
	x, e := ratio.Parse(token.Text)
	if e != api.OK {
		r.fail(token, e)
		return api.Rat{}
	}
	r.goOn()
	return x
}

// count reads how many states or inputs there are.
func (r *reader) count() int {
	token := r.next()
	x := r.number()
	for n := range vec.MaxDim + 1 {
		// A number that there is no room to compare is none of these.
		if order, e := ratio.Compare(x, ratio.Of(int64(n), 1)); e == api.OK && order == 0 {
			return n
		}
	}
	r.fail(token, api.ErrRange)
	return 0
}

// row reads numbers, or nothing.
func (r *reader) row() []api.Rat {
	if r.next().Kind != lex.Number {
		return nil
	}
	list := []api.Rat{r.number()}
	for r.passes(",") {
		list = append(list, r.number())
	}
	return list
}

// list reads a list.
func (r *reader) list() []api.Rat {
	r.needs("[")
	list := r.row()
	r.needs("]")
	return list
}

// table reads a table.
func (r *reader) table() [][]api.Rat {
	r.needs("[")
	rows := [][]api.Rat{r.row()}
	for r.passes(";") {
		rows = append(rows, r.row())
	}
	r.needs("]")
	return rows
}

// set reads a middle and ways.
func (r *reader) set() model.Zono {
	z := model.Zono{Center: r.list()}
	for r.passes("+") {
		z.Gens = append(z.Gens, r.list())
	}
	return z
}

// claim reads a claim with that sign behind its list.
func (r *reader) claim(never bool, sign string) model.Claim {
	c := model.Claim{Never: never, Dir: r.list()}
	r.needs(sign)
	c.Bound = r.number()
	r.needs("from")
	c.From = r.number()
	r.needs("to")
	c.To = r.number()
	return c
}
