package search

import (
	"slices"

	"breadboard/api"
	"breadboard/num"
	"breadboard/table"
)

// variable says which operand of an instruction has a number that follows its
// opcode.
type variable struct {
	isIn   func(o api.Operand) bool // whether an operand can have the number
	allows func(n int) bool         // whether the number is in its range
}

// variables returns what the letters of the Extra of an entry say: d about the
// index register, and one other letter at most.
func variables(e table.Entry) (index, other variable) {
	index, other = variable{ofKinds(), within(0, 0)}, variable{ofKinds(), within(0, 0)}
	for _, letter := range []byte(e.Extra) {
		switch letter {
		case 'd':
			index = variable{ofKinds(api.Idx), within(-128, 127)}
		case 'e':
			other = variable{ofKinds(api.Rel), within(-128, 127)}
		case 'n':
			other = variable{ofKinds(api.Imm, api.Mem), within(0, 255)}
		case 'w':
			other = variable{ofKinds(api.Imm, api.Mem), within(0, 65535)}
		}
	}
	return index, other
}

func ofKinds(kinds ...int) func(o api.Operand) bool {
	return func(o api.Operand) bool { return slices.Contains(kinds, o.Kind) }
}

func within(least, most int) func(n int) bool {
	return func(n int) bool { return num.Fits(least, most, n) }
}

// at returns the index of the operand, which is the last one of its kinds, or
// -1, if there is none.
func (v variable) at(i api.Instr) int {
	for k, o := range slices.Backward(i.Args) {
		if v.isIn(o) {
			return k
		}
	}
	return -1
}

// number returns the number of the operand, and 0 if there is none.
func (v variable) number(i api.Instr) int {
	if k := v.at(i); k >= 0 {
		return i.Args[k].N
	}
	return 0
}

// put gives the operand a number. It reports whether the number is in its
// range; without an operand, this has 0 only.
func (v variable) put(i api.Instr, n int) bool {
	k := v.at(i)
	if k < 0 {
		return n == 0
	}
	i.Args[k].N = n
	return v.allows(n)
}
