package lex

import (
	"strings"

	"breadboard/num"
)

// signs are all signs. None of them is the beginning of another one.
var signs = [...]string{"<<", ">>", ",", "(", ")", "+", "-", "*", "/", "&", "|", "^", "~", ":", "=", "$"}

// marks are the quotation marks.
const marks = `"'`

// isMark reports whether a text begins with a quotation mark.
func isMark(s string) bool { return s != "" && strings.IndexByte(marks, s[0]) >= 0 }

// wordSize returns the size of the word with which a text begins, and 0 if
// there is none.
func wordSize(s string) int {
	if s == "" || !isLetter(s[0]) {
		return 0
	}
	size := partSize(s)
	// The second register AF has a quotation mark in its name.
	if num.Upper(s[:size]) == "AF" && strings.HasPrefix(s[size:], "'") {
		size++
	}
	return size
}

// numberSize returns the size of what is to be the number with which a text
// begins, and 0 if none begins there.
func numberSize(s string) int {
	if s == "" {
		return 0
	}
	size := 1 + partSize(s[1:])
	if isDigit(s[0]) || s[0] == '%' || s[0] == '$' && size > 1 {
		return size
	}
	return 0
}

// partSize returns the number of letters and digits with which a text begins.
func partSize(s string) int {
	size := 0
	for size < len(s) && (isLetter(s[size]) || isDigit(s[size])) {
		size++
	}
	return size
}

// isLetter reports whether a byte is one of the letters of words.
func isLetter(c byte) bool {
	return 'A' <= c && c <= 'Z' || 'a' <= c && c <= 'z' || strings.IndexByte("_.?@", c) >= 0
}

// isDigit reports whether a byte is a decimal digit.
func isDigit(c byte) bool { return '0' <= c && c <= '9' }
