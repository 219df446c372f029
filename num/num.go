// Package num reads and writes numbers. It is layer 1; see shared/doc/01-num.md.
package num

import "strings"

// greatest is the greatest number that a word denotes and that Text prints.
const greatest = 65535

// hexDigits has each hexadecimal digit at the offset of its value.
const hexDigits = "0123456789ABCDEF"

// mostDigits is the greatest number of digits that Hex prints.
const mostDigits = 8

// form is one of the ways to write a number.
type form struct {
	base int
	// cut takes the digits out of a word in capital letters; it reports
	// whether the word has the other parts of the form.
	cut func(word string) (string, bool)
}

// forms returns all forms. They can be tried in any order, because no word
// denotes a number in two of them.
func forms() []form {
	return []form{
		{10, func(word string) (string, bool) { return word, true }},
		{16, func(word string) (string, bool) { return strings.CutPrefix(word, "0X") }},
		{16, func(word string) (string, bool) { return strings.CutPrefix(word, "$") }},
		{16, cutHexSuffix},
		{2, func(word string) (string, bool) { return strings.CutSuffix(word, "B") }},
		{2, func(word string) (string, bool) { return strings.CutPrefix(word, "%") }},
	}
}

// cutHexSuffix takes the H off a word. A first digit that is a letter is
// refused, as it would make the word look like a name.
func cutHexSuffix(word string) (string, bool) {
	digits, ok := strings.CutSuffix(word, "H")
	return digits, ok && digits != "" && isDecimal(digits[0])
}

// Parse returns the number that a word denotes, and true; or 0 and false.
func Parse(s string) (int, bool) {
	word := Upper(s)
	for _, f := range forms() {
		digits, ok := f.cut(word)
		if !ok {
			continue
		}
		if n, ok := read(digits, f.base); ok {
			return n, true
		}
	}
	return 0, false
}

// read returns the number that the digits of a base denote, and true; or 0
// and false, if there are none, or one is wrong, or the number is too great.
func read(digits string, base int) (int, bool) {
	n := 0
	add := func(c byte) bool {
		v := value(c)
		if v < 0 || v >= base {
			return false
		}
		n = n*base + v
		// To stop here keeps n small, however many digits follow.
		return n <= greatest
	}
	for i := range len(digits) {
		if !add(digits[i]) {
			return 0, false
		}
	}
	return n, digits != ""
}

// value returns the value of a hexadecimal digit, and -1 for other bytes.
func value(c byte) int { return strings.IndexByte(hexDigits, capital(c)) }

// isDecimal reports whether a byte is a decimal digit.
func isDecimal(c byte) bool { return '0' <= c && c <= '9' }

// Text returns the form in which a number from 0 to 65535 is printed, and ""
// for other numbers.
func Text(n int) string {
	if !Fits(0, greatest, n) {
		return ""
	}
	if n < 10 {
		return hexDigits[n : n+1]
	}
	digits := strings.TrimLeft(Hex(n, 4), "0")
	if !isDecimal(digits[0]) {
		digits = "0" + digits
	}
	return digits + "H"
}

// Hex returns the last hexadecimal digits of n, as many as digits says. The
// document says nothing about less than 0 or more than 8 digits; the result
// is "" for them.
func Hex(n, digits int) string {
	if !Fits(0, mostDigits, digits) {
		return ""
	}
	b := make([]byte, digits)
	for i := range digits {
		// A shift rounds down, so negative numbers have their digits as well.
		b[digits-1-i] = hexDigits[n>>(4*i)&15]
	}
	return string(b)
}

// Bytes returns the bytes that pairs of hexadecimal digits denote, and true;
// or nothing and false, if s does not consist of such pairs.
func Bytes(s string) ([]byte, bool) {
	if len(s)%2 != 0 {
		return nil, false
	}
	b := make([]byte, len(s)/2)
	for i := range len(b) {
		n, ok := read(s[2*i:2*i+2], 16)
		if !ok {
			return nil, false
		}
		b[i] = byte(n)
	}
	return b, true
}

// Signed returns the number from -128 to 127 that a byte stands for.
func Signed(b byte) int { return int(int8(b)) }

// Low returns the low bytes of numbers.
func Low(l ...int) []byte {
	b := make([]byte, len(l))
	for i, n := range l {
		b[i] = byte(n)
	}
	return b
}

// Fits reports whether all numbers are from lo to hi.
func Fits(lo, hi int, l ...int) bool {
	for _, n := range l {
		if n < lo || n > hi {
			return false
		}
	}
	return true
}

// Upper returns a string with capital letters instead of a to z. All other
// bytes stay as they are, also those of longer or broken characters.
func Upper(s string) string {
	b := []byte(s)
	for i, c := range b {
		b[i] = capital(c)
	}
	return string(b)
}

// capital returns the capital letter of a byte from a to z, and other bytes
// as they are.
func capital(c byte) byte {
	if 'a' <= c && c <= 'z' {
		return c - 'a' + 'A'
	}
	return c
}
