package flow

import (
	"slices"

	"breadboard/api"
	"breadboard/canon"
	"breadboard/search"
)

// effect is what an instruction does to the way of a program. The zero effect
// is plain.
type effect struct {
	kind      int
	sometimes bool
	operands  []api.Operand // those of the canonical form
}

// effectOf returns the effect of an instruction.
func effectOf(i api.Instr) effect {
	form := canon.Of(i)
	e := effect{kindOf(form), form.Op == "DJNZ" || has(form, api.Cond), form.Args}
	// Most instructions are plain, and none of these has a condition. So the
	// table, which takes longer than all else, is searched for few only.
	if e.kind == Plain || !search.Legal(i) {
		return effect{}
	}
	return e
}

// effectOfItem returns the effect of the instruction of an item, and a plain
// one for items that have no instruction.
func effectOfItem(x api.Item) effect {
	if x.Kind != api.Code1 {
		return effect{}
	}
	return effectOf(x.Instr)
}

// kindOf returns the kind of the effect of a canonical form, if it is legal.
func kindOf(form api.Instr) int {
	switch form.Op {
	case "JR", "DJNZ":
		return Jump
	case "CALL", "RST":
		return Call
	case "RET", "RETI", "RETN":
		return Return
	case "HALT":
		return Away
	case "JP":
		if has(form, api.Ind) {
			return Away
		}
		return Jump
	}
	return Plain
}

// has reports whether an instruction has an operand of a kind.
func has(i api.Instr, kind int) bool {
	return slices.ContainsFunc(i.Args, func(o api.Operand) bool { return o.Kind == kind })
}

// passes reports whether a program can go on behind the instruction.
func (e effect) passes() bool {
	switch e.kind {
	case Jump, Return, Away:
		return e.sometimes
	}
	return true
}

// target returns the address to which the instruction goes if it is at another
// one, and true; or 0 and false, if it goes to none, or if there is no such
// address.
func (e effect) target(addr int) (int, bool) {
	if e.kind != Jump && e.kind != Call || !isAddress(addr) {
		return 0, false
	}
	for _, o := range e.operands {
		switch o.Kind {
		case api.Imm:
			return o.N, true
		case api.Rel:
			// Distances count from the end of the jump, which has two bytes, and
			// the last address is followed by the first one.
			return int(uint16(addr + 2 + o.N)), true
		}
	}
	return 0, false
}
