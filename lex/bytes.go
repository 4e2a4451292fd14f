package lex

import "strings"

// The sorts of bytes.
const (
	blanks  = " \t\r"
	digits  = "0123456789"
	letters = "abcdefghijklmnopqrstuvwxyzABCDEFGHIJKLMNOPQRSTUVWXYZ"
	signs   = "[],;+=" // those of one byte
)

// among asks of a byte whether it is one of a sort.
func among(sort string) func(c byte) bool {
	return func(c byte) bool { return strings.IndexByte(sort, c) >= 0 }
}

// run is how many bytes stand at a text's beginning of which all that is asked holds.
func run(s string, asked func(c byte) bool) int {
	size := 0
	for size < len(s) && asked(s[size]) {
		size++
	}
	return size
}

// leftOut is how many bytes at a text's beginning belong to no token. (Behind a remark there are none of these: a line ends.)
func leftOut(s string) int {
	size := run(s, among(blanks))
	if strings.HasPrefix(s[size:], "#") {
		size += run(s[size:], func(c byte) bool { return c != '\n' })
	}
	return size
}

// begin is the kind and the size of the token at the beginning of a text that isn't empty; size 0: none can begin.
func begin(s string) (kind, size int) {
	isLetter, isDigit := among(letters), among(digits)
	minus := 0
	switch c := s[0]; {
	case isLetter(c):
		return Word, run(s, isLetter)
	case c == '-':
		minus = 1
		fallthrough
	case isDigit(c):
		return Number, number(s, minus)
	case c == '\n':
		return Line, 1
	}
	return Sign, sign(s)
}

// number is the size of a number whose digits begin at a place; 0: it is none.
func number(s string, from int) int {
	isDigit := among(digits)
	ahead := run(s[from:], isDigit)
	end := from + ahead
	switch {
	case ahead == 0:
		return 0
	case end == len(s) || s[end] != '.' && s[end] != '/':
		return end
	}
	behind := run(s[end+1:], isDigit)
	if behind == 0 {
		return 0
	}
	return end + 1 + behind
}

// sign is the size of a sign; 0: it is none.
func sign(s string) int {
	isSign := among(signs)
	switch {
	case strings.HasPrefix(s, ">=") || strings.HasPrefix(s, "<="):
		return 2
	case isSign(s[0]):
		return 1
	}
	return 0
}
