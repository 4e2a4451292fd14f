package parse_test

import (
	"regexp"
	"slices"
	"strings"
	"testing"

	"girdle/api"
)

// form is what may stand behind a word: the whole of it, and what it may begin with; n is a number, each other sign itself.
type form struct{ whole, begun *regexp.Regexp }

// forms is a form of each kind, told once more by patterns of its own.
func forms() map[string]form {
	const (
		row       = `(n(,n)*)?`
		rowBegun  = `(n(,n)*,?)?`
		list      = `\[` + row + `\]`
		listBegun = `(\[` + rowBegun + `)?`
	)
	made := func(whole, begun string) form {
		return form{regexp.MustCompile("^(" + whole + ")$"), regexp.MustCompile("^(" + whole + "|" + begun + ")$")}
	}
	table := made(`\[`+row+`(;`+row+`)*\]`, `(\[(`+row+`;)*`+rowBegun+`)?`)
	set := made(list+`(\+`+list+`)*`, listBegun+`|(`+list+`\+)+`+listBegun)
	number := made(`n`, ``)
	return map[string]form{"A": table, "B": table, "c": made(list, listBegun), "start": set, "input": set, "horizon": number, "step": number}
}

// fits tells of a line whether it is of a form: a text of one letter a token, which stand every second byte from one on. (A line alone isn't a model: what fits goes on to what is missing.)
func fits(t *testing.T, word string, f form, letters string) {
	t.Helper()
	s := word
	for _, letter := range strings.ReplaceAll(letters, "n", "7") {
		s += " " + string(letter)
	}
	if f.whole.MatchString(letters) {
		refused(t, s, api.ErrMissing, len(s))
		refused(t, s+"\n", api.ErrMissing, len(s)+1)
		return
	}
	for i := range letters {
		if !f.begun.MatchString(letters[:i+1]) {
			refused(t, s, api.ErrForm, len(word)+1+2*i)
			return
		}
	}
	// Nothing is wrong but that it ends.
	refused(t, s, api.ErrForm, len(s))
	refused(t, s+" \n 1", api.ErrForm, len(s)+1)
}

func TestFormsOfLines(t *testing.T) {
	for word, f := range forms() {
		texts := []string{""}
		for range 9 {
			var longer []string
			for _, letters := range texts {
				fits(t, word, f, letters)
				// What can't begin so is gone on with by one token alone.
				if f.begun.MatchString(letters) {
					for _, letter := range "n[],;+=x" {
						longer = append(longer, letters+string(letter))
					}
				}
			}
			texts = longer
		}
		for _, letters := range []string{"[n,n;n,n]", "[;;;]", "[n,n]+[n,n]+[]", "[n,n]+[n,n]+", "[n,n,n,n,n,n,n,n]", "[n,n;n,;n]", "[]+[]+[]+[]", "[n;n]+[n;n]", "[[n]]", "[n]+[n]]"} {
			fits(t, word, f, letters)
		}
	}
}

// TestFormsOfClaims puts each token of a claim out, in, and another one in its place.
func TestFormsOfClaims(t *testing.T) {
	others := []string{"never", "always", "from", "to", "dim", "x", "7", "[", "]", ",", ";", "+", "=", ">=", "<="}
	for _, claim := range []string{"never [ 1 , 2 ] >= 3 from 0 to 1", "always [ 1 , 2 ] <= 3 from 0 to 1", "never [ ] >= 3 from 0 to 1"} {
		list := strings.Fields(claim)
		number := func(word string) bool { return word >= "0" && word <= "9" }
		inList := func(at int) bool { return at > 1 && at < slices.Index(list, "]") }
		refused(t, claim, api.ErrMissing, len(claim))
		at := 0
		for i, word := range list {
			s := strings.TrimSuffix(claim[:at], " ")
			if i > 0 {
				refused(t, s, api.ErrForm, len(s))
				refused(t, s+"\n"+claim[at:], api.ErrForm, len(s))
			}
			for _, other := range others {
				same := other == word || number(other) && number(word)
				// A list may go on or end elsewhere; what is wrong then stands further on.
				elsewhere := i == 0 || inList(i) || word == "]" && (other == "," || number(other))
				if !same && !elsewhere {
					refused(t, claim[:at]+other+claim[at+len(word):], api.ErrForm, at)
					refused(t, claim[:at]+other+" "+claim[at:], api.ErrForm, at)
				}
			}
			at += len(word) + 1
		}
		for _, other := range others {
			refused(t, claim+" "+other, api.ErrForm, len(claim)+1)
		}
	}
	for s, at := range map[string]int{
		"never [1] <= 3 from 0 to 1": 10, "always [1] >= 3 from 0 to 1": 11, "never [1] >= 3 to 0 from 1": 15, "never [1] >= 3 from 0": 21, "never [1] >= 3": 14, "never": 5, "always\n": 6,
		"never [1,] >= 3 from 0 to 1": 9, "never [1;2] >= 3 from 0 to 1": 8, "never [1] + [2] >= 3 from 0 to 1": 10, "never 1 >= 3 from 0 to 1": 6, "never [1] >= [3] from 0 to 1": 13, "never [1] >= 3 From 0 to 1": 15, "never [1] >= 3 from0 to 1 2": 26, "never [1] = 3 from 0 to 1": 10,
	} {
		refused(t, s, api.ErrForm, at)
	}
}
