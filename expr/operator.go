package expr

import (
	"breadboard/api"
	"breadboard/num"
)

// minValue and maxValue are the ends of the range of values.
const (
	minValue = -1 << 31
	maxValue = 1<<31 - 1
)

// lowest is the lowest level of an operator, and tight is above all levels.
const (
	lowest = 1
	tight  = 7
)

// mod is the only operator that is a word.
const mod = "MOD"

// operator says what an operator does between two numbers and in front of one.
type operator struct {
	// level is 0 if the operator cannot be between two numbers.
	level  int
	binary func(a, b int) int
	// unary is nil if the operator cannot be in front of a number.
	unary func(a int) int
}

// operators returns all operators by their names.
func operators() map[string]operator {
	return map[string]operator{
		"|":  {level: 1, binary: func(a, b int) int { return a | b }},
		"^":  {level: 2, binary: func(a, b int) int { return a ^ b }},
		"&":  {level: 3, binary: func(a, b int) int { return a & b }},
		"<<": {level: 4, binary: func(a, b int) int { return product(a, 1<<shift(b)) }},
		">>": {level: 4, binary: func(a, b int) int { return a >> shift(b) }},
		"+":  {level: 5, binary: sum, unary: func(a int) int { return a }},
		"-":  {level: 5, binary: difference, unary: func(a int) int { return -a }},
		"*":  {level: 6, binary: product},
		"/":  {level: 6, binary: func(a, b int) int { return a / divisor(b) }},
		mod:  {level: 6, binary: func(a, b int) int { return a % divisor(b) }},
		"~":  {unary: func(a int) int { return ^a }},
	}
}

// sum adds two numbers. Numbers of tokens may be so large that int wraps
// around, which must not bring the result into the range.
func sum(a, b int) int {
	n := a + b
	if (n < a) != (b < 0) {
		panic(mistake{api.ErrRange})
	}
	return n
}

// difference subtracts two numbers, which may be as large as those of sum.
func difference(a, b int) int {
	n := a - b
	if (n > a) != (b < 0) {
		panic(mistake{api.ErrRange})
	}
	return n
}

// product multiplies two numbers, which may be as large as those of sum.
func product(a, b int) int {
	if a == 0 || b == 0 {
		return 0
	}
	// With a factor beyond these ends, whatever the other one is, the result is
	// out of the range; with both between them, int does not wrap around.
	if !num.Fits(minValue, -minValue, a, b) {
		panic(mistake{api.ErrRange})
	}
	return a * b
}

// shift returns a number of bits to shift by.
func shift(n int) int {
	if !num.Fits(0, 31, n) {
		panic(mistake{api.ErrRange})
	}
	return n
}

// divisor returns a number to divide by.
func divisor(n int) int {
	if n == 0 {
		panic(mistake{api.ErrZero})
	}
	return n
}

// inRange returns a result of an operator.
func inRange(n int) int {
	if !num.Fits(minValue, maxValue, n) {
		panic(mistake{api.ErrRange})
	}
	return n
}
