package lex_test

import (
	"math"
	"regexp"
	"slices"
	"strconv"
	"strings"
	"testing"
	"unsafe"

	"girdle/api"
	"girdle/lex"
)

// The bounds as the document tells them.
const (
	maxText   = 65536
	maxTokens = 16384
)

// described is tokens, each as its kind's first letter, its place and its text, with blanks between.
func described(list []lex.Token) string {
	var words []string
	for _, token := range list {
		kind := "?"
		if token.Kind >= lex.Word && token.Kind <= lex.End {
			kind = "WNSLE"[token.Kind : token.Kind+1]
		}
		words = append(words, kind+strconv.Itoa(token.At)+strings.ReplaceAll(token.Text, "\n", "$"))
	}
	return strings.Join(words, " ")
}

// cut tells whether a text is cut into those tokens, without a fault.
func cut(t *testing.T, s, want string) {
	t.Helper()
	list, fault := lex.Scan(s)
	if got := described(list); got != want || fault != (api.Fault{}) {
		t.Errorf("%.80q: %.200s, fault %v, not %.200s", s, got, fault, want)
	}
}

// refused tells whether a text has that fault, and no tokens.
func refused(t *testing.T, s string, code api.Errno, at int) {
	t.Helper()
	list, fault := lex.Scan(s)
	if len(list) > 0 || fault != (api.Fault{Code: code, At: at}) {
		t.Errorf("%.80q: %.200s, fault %v, not %d at %d", s, described(list), fault, code, at)
	}
}

// P9.1

func TestNumbersOfKindsAndBounds(t *testing.T) {
	if lex.Word != 0 || lex.Number != 1 || lex.Sign != 2 || lex.Line != 3 || lex.End != 4 {
		t.Error("the kinds aren't numbered as they are told")
	}
	if lex.MaxText != maxText || lex.MaxTokens != maxTokens {
		t.Errorf("MaxText %d, MaxTokens %d", lex.MaxText, lex.MaxTokens)
	}
}

func TestScan(t *testing.T) {
	for s, want := range map[string]string{
		"":                        "E0",
		"dim":                     "W0dim E3",
		"azAZ":                    "W0azAZ E4",
		"0123456789":              "N00123456789 E10",
		"-1/2":                    "N0-1/2 E4",
		"-0.25":                   "N0-0.25 E5",
		"007/090":                 "N0007/090 E7",
		"1-2":                     "N01 N1-2 E3",
		"1/2-3.4":                 "N01/2 N3-3.4 E7",
		"1 -2":                    "N01 N2-2 E4",
		"1+-2":                    "N01 S1+ N2-2 E4",
		"12ab34":                  "N012 W2ab N434 E6",
		"ab-1":                    "W0ab N2-1 E4",
		"1.5x":                    "N01.5 W3x E4",
		">=<=[],;+=":              "S0>= S2<= S4[ S5] S6, S7; S8+ S9= E10",
		">==":                     "S0>= S2= E3",
		"==":                      "S0= S1= E2",
		"<==>=":                   "S0<= S2= S3>= E5",
		"\n":                      "L0$ E1",
		"\n\n a\n":                "L0$ L1$ W3a L4$ E5",
		"a\r\nb\rc":               "W0a L2$ W3b W5c E6",
		" \t\r ":                  "E4",
		"\t a\t":                  "W2a E4",
		"#":                       "E1",
		"# 1/ @ \xff \x00 é":      "E13",
		"#a\r b":                  "E5",
		"#\n#x\n":                 "L1$ L4$ E5",
		"a#b\nc":                  "W0a L3$ W4c E5",
		"1#2":                     "N01 E3",
		"1/2#/3":                  "N01/2 E6",
		">=#=":                    "S0>= E4",
		"# a # b\n \t# c\n-1 # d": "L7$ L13$ N14-1 E20",
		"A = [1, 0; -1/2, 0.5]":   "W0A S2= S4[ N51 S6, N80 S9; N11-1/2 S15, N170.5 S20] E21",
	} {
		cut(t, s, want)
	}
}

func TestScanOfWhatIsNoToken(t *testing.T) {
	for s, at := range map[string]int{
		"-": 0, "--1": 0, "- 1": 0, "-a": 0, "-.5": 0, "-/2": 0, "-\n1": 0, "1 -": 2, "1-": 1, "1--2": 1,
		"1/": 0, "1.": 0, "-1/": 0, "-1.": 0, "1/ 2": 0, "1. 2": 0, "1/-2": 0, "1.-2": 0, "1//2": 0, "1..2": 0, "1./2": 0, "1/.2": 0, "1/x": 0, "1.e": 0, "1/\n": 0, "1/#2": 0, "a 12/": 2,
		"1/2/": 3, "1/2/3": 3, "1.2.3": 3, "1/2.3": 3, "-1.2/3": 4, ".5": 0, "/2": 0, "1 /2": 2, "1 .5": 2,
		">": 0, "<": 0, "> =": 0, ">\n=": 0, "=>": 1, "=<": 1, "=>=>": 3, ">>=": 0, "1<2": 1,
		"a @": 2, "a\n\n@": 3, "# @\n@": 4, "\"": 0, "(1)": 0, "{": 0, "a_b": 1, "a:": 1, "a*b": 1, "!": 0, "'": 0, "\\": 0, "1e|": 2,
		"\x00": 0, "a\x00": 1, "\v": 0, "\f": 0, "\x7f": 0, "\x80": 0, "\xff": 0, "é": 0, "aé": 1, "\u0661": 0, "\u00a0": 0, "\ufeffdim": 0, "1\u2028": 1,
	} {
		refused(t, s, api.ErrForm, at)
	}
}

func TestScanOfEachByte(t *testing.T) {
	for i := range 256 {
		s := string([]byte{byte(i)})
		switch c := s[0]; {
		case c >= 'a' && c <= 'z' || c >= 'A' && c <= 'Z':
			cut(t, s, "W0"+s+" E1")
		case c >= '0' && c <= '9':
			cut(t, s, "N0"+s+" E1")
		case strings.Contains("[],;+=", s):
			cut(t, s, "S0"+s+" E1")
		case c == '\n':
			cut(t, s, "L0$ E1")
		case strings.Contains(" \t\r#", s):
			cut(t, s, "E1")
		default:
			refused(t, s, api.ErrForm, 0)
		}
	}
}

// shape finds a token, or what is left out, at a text's beginning.
var shape = regexp.MustCompile(`^(?:([a-zA-Z]+)|(-?[0-9]+(?:[./][0-9]+)?)|(>=|<=|[\[\],;+=])|(\n)|[ \t\r]+|#[^\n]*)`)

// expected is what Scan is to answer of a text within the bounds.
func expected(s string) (string, api.Fault) {
	var list []lex.Token
	for at := 0; at < len(s); {
		found := shape.FindStringSubmatchIndex(s[at:])
		if found == nil {
			return "", api.Fault{Code: api.ErrForm, At: at}
		}
		end := at + found[1]
		for kind := lex.Word; kind <= lex.Line; kind++ {
			if found[2*kind+2] >= 0 {
				list = append(list, lex.Token{Kind: kind, At: at, Text: s[at:end]})
			}
		}
		// The shape leaves a point or a stroke that stands behind digits, if no digit is behind it.
		digitsAlone := found[4] >= 0 && !strings.ContainsAny(s[at:end], "./")
		if digitsAlone && end < len(s) && (s[end] == '.' || s[end] == '/') {
			return "", api.Fault{Code: api.ErrForm, At: at}
		}
		at = end
	}
	return described(append(list, lex.Token{Kind: lex.End, At: len(s)})), api.Fault{}
}

func TestScanOfAllShortTexts(t *testing.T) {
	const bytes = "aZ07-./ \n#>=["
	texts := []string{""}
	for range 4 {
		var longer []string
		for _, s := range texts {
			want, fault := expected(s)
			if fault == (api.Fault{}) {
				cut(t, s, want)
			} else {
				refused(t, s, fault.Code, fault.At)
			}
			for i := range len(bytes) {
				longer = append(longer, s+bytes[i:i+1])
			}
		}
		texts = longer
	}
}

func TestScanOfLongTexts(t *testing.T) {
	for _, s := range []string{strings.Repeat(" ", maxText), "#" + strings.Repeat("\xff", maxText-1)} {
		cut(t, s, "E65536")
	}
	word := strings.Repeat("w", maxText)
	cut(t, word, "W0"+word+" E65536")
	number := "-" + strings.Repeat("0", 30000) + "/" + strings.Repeat("1", maxText-30002)
	cut(t, number, "N0"+number+" E65536")
	refused(t, strings.Repeat(" ", maxText-1)+"@", api.ErrForm, maxText-1)
	for _, s := range []string{strings.Repeat(" ", maxText+1), word + "w", number + "1", "#" + word, strings.Repeat("a ", maxText), "@" + word, strings.Repeat("\n", 1<<20)} {
		refused(t, s, api.ErrLong, maxText)
	}
}

func TestScanOfManyTokens(t *testing.T) {
	for _, one := range []string{"a ", "1 ", "-1/2", "[", ">=", "\n", "+"} {
		most := strings.Repeat(one, maxTokens)
		if len(most) > maxText {
			t.Fatal("a test's text is too long")
		}
		for _, behind := range []string{"", " ", "#a", " \t\r# b"} {
			if len(most)+len(behind) > maxText {
				continue
			}
			list, fault := lex.Scan(most + behind)
			if len(list) != maxTokens+1 || fault != (api.Fault{}) || list[maxTokens] != (lex.Token{Kind: lex.End, At: len(most + behind)}) {
				t.Errorf("%q, and %q: %d tokens, fault %v", one, behind, len(list), fault)
			}
		}
	}
	most := strings.Repeat("a ", maxTokens)
	for _, next := range []string{"a", "1", "[", ">=", "\n", "a @", "= = =", "\n@"} {
		refused(t, most+next, api.ErrLong, len(most))
	}
	refused(t, most+"\t\r a", api.ErrLong, len(most)+3)
	refused(t, most+"#a\n", api.ErrLong, len(most)+2)
	// No token begins here.
	for _, next := range []string{"@", "1/", "-", ">"} {
		refused(t, most+next, api.ErrForm, len(most))
	}
	// What stands ahead of all that is told of first.
	refused(t, "@"+most+"a", api.ErrForm, 0)
}

// P9.2

// plain is tokens of a text: words and numbers that stand for themselves, | for a line's end, . for the End.
func plain(text string) []lex.Token {
	var list []lex.Token
	for i, word := range strings.Fields(text) {
		switch {
		case word == "|":
			list = append(list, lex.Token{Kind: lex.Line, At: i, Text: "\n"})
		case word == ".":
			list = append(list, lex.Token{Kind: lex.End, At: i})
		case strings.Contains("[],;+=>=<=", word):
			list = append(list, lex.Token{Kind: lex.Sign, At: -i, Text: word})
		case word[0] >= 'A':
			list = append(list, lex.Token{Kind: lex.Word, At: 1000 - i, Text: word})
		default:
			list = append(list, lex.Token{Kind: lex.Number, Text: word})
		}
	}
	return list
}

func TestJoin(t *testing.T) {
	for text, want := range map[string]string{
		"": "", ".": "", "a": "a", "a .": "a", "|": "\n", "| .": "\n", "a |": "a\n", "| a": "\na", "| |": "\n\n", "a | b": "a\nb", "a | | b |": "a\n\nb\n",
		"a b": "a b", "1 -2": "1 -2", "1 a": "1 a", "a 1 .": "a 1", "[ 1 , 2 ; -1/2 ]": "[ 1 , 2 ; -1/2 ]", ">= =": ">= =", "+ + +": "+ + +",
		"never [ 1 ] >= 2 from 0 to 1 | dim 3 .": "never [ 1 ] >= 2 from 0 to 1\ndim 3",
		". a":                                    " a", ". .": "", ". |": "\n", "a . b": "a b", // an End that isn't the last one: nothing is said of what is behind it
	} {
		if got := lex.Join(plain(text)...); got != want {
			t.Errorf("%s: %q, not %q", text, got, want)
		}
	}
	if got := lex.Join(); got != "" {
		t.Errorf("of none: %q", got)
	}
	if got := lex.Join(lex.Token{Kind: 7, Text: "é\n"}, lex.Token{Kind: -1}, lex.Token{Kind: lex.Line, Text: "x"}, lex.Token{Kind: lex.Word, Text: " "}); got != "é\n x " {
		t.Errorf("of tokens that no text is cut into: %q", got)
	}
}

func TestJoinedTextIsCutIntoTheSameTokens(t *testing.T) {
	for _, s := range []string{
		"", "\n", "a", "never[1/2,-0.5]>=3#so\n\tA+=;", "1-2-3", "12ab34\r\n\n;;", "# a\n\n# b\n  x # c", ">=<==[]", "dim 2\ninputs 1\nA [0, 1; -1, 0]\nB [0; 1]\nc [0, 0]\n",
	} {
		list, fault := lex.Scan(s)
		joined := lex.Join(list...)
		again, other := lex.Scan(joined)
		same := slices.EqualFunc(list, again, func(a, b lex.Token) bool { return a.Kind == b.Kind && a.Text == b.Text })
		if fault != other || !same || lex.Join(again...) != joined {
			t.Errorf("%q, joined %q: %s, not %s", s, joined, described(again), described(list))
		}
	}
}

// P1

func TestNoCallPanics(t *testing.T) {
	const pieces = "ab01-./#\n >=<[],;+=\t\r"
	seed := uint64(5)
	for size := range 300 {
		bytes := make([]byte, size)
		for i := range bytes {
			seed = seed*6364136223846793005 + 1442695040888963407
			bytes[i] = byte(seed >> 40)
			if size%2 == 0 {
				bytes[i] = pieces[int(bytes[i])%len(pieces)]
			}
		}
		list, fault := lex.Scan(string(bytes))
		want, wantFault := expected(string(bytes))
		if described(list) != want || fault != wantFault {
			t.Errorf("%q: %s, fault %v, not %s, %v", bytes, described(list), fault, want, wantFault)
		}
	}
	for _, s := range []string{"-", "1", "1/", "1.1", "#", "\n", ">", ">=", "\xff", "a", " "} {
		lex.Scan(strings.Repeat(s, 1<<22))
		lex.Scan(strings.Repeat(s, maxText/len(s)))
	}
	for _, kind := range []int{math.MinInt, -1, lex.Word, lex.Line, lex.End, 5, math.MaxInt} {
		for _, text := range []string{"", "\xff\n", strings.Repeat("\n", 1<<20)} {
			token := lex.Token{Kind: kind, At: kind, Text: text}
			lex.Join(token)
			lex.Join(token, token, lex.Token{})
		}
	}
}

// P2

func TestTokensAreNewMemory(t *testing.T) {
	const s = "never [1/2] >= 3\n"
	first, _ := lex.Scan(s)
	second, _ := lex.Scan(s)
	want := described(first)
	full := second[:cap(second)]
	for i := range full {
		full[i] = lex.Token{Kind: -1, At: -1, Text: "?"}
	}
	third, _ := lex.Scan(s)
	if described(first) != want || described(third) != want {
		t.Error("two answers share memory")
	}
	from := uintptr(unsafe.Pointer(unsafe.StringData(s)))
	for _, token := range first {
		if at := uintptr(unsafe.Pointer(unsafe.StringData(token.Text))); token.Text != "" && at >= from && at < from+uintptr(len(s)) {
			t.Errorf("%q is of the text that was handed in", token.Text)
		}
	}
}

func TestJoinLeavesTokensAlone(t *testing.T) {
	list := plain("a 1 | [ . a 1 | [ .")
	were := slices.Clone(list)
	first := lex.Join(list[:5]...)
	if !slices.Equal(list, were) || first != "a 1\n[" || lex.Join(list[:5]...) != first {
		t.Errorf("%q of %v", first, list)
	}
	alone := lex.Token{Kind: lex.Word, Text: "word"}
	if got := lex.Join(alone); got != "word" || unsafe.StringData(got) == unsafe.StringData(alone.Text) {
		t.Error("one token's text isn't copied")
	}
}
