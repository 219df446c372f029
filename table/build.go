package table

import (
	"slices"
	"strings"

	"breadboard/api"
)

// inMemory is the number that stands for (HL) in a field of 8-bit registers.
const inMemory = 6

func register(reg int) api.Operand { return api.Operand{Kind: api.R8, Reg: reg} }

func half(reg int) api.Operand { return api.Operand{Kind: api.RX, Reg: reg} }

func pair(reg int) api.Operand { return api.Operand{Kind: api.R16, Reg: reg} }

func pointer(reg int) api.Operand { return api.Operand{Kind: api.Ind, Reg: reg} }

func value(n int) api.Operand { return api.Operand{Kind: api.Imm, N: n} }

// code is an opcode with the pattern that counts for it.
type code struct {
	pattern
	op byte
}

// number returns the number in the field of a letter.
func (c code) number(letter byte) int {
	n := 0
	for k, bit := range []byte(c.bits) {
		if bit == letter {
			n = n<<1 | int(c.op>>(7-k)&1)
		}
	}
	return n
}

// words returns the mnemonic of the instruction and the words of its operands:
// those that belong to the mnemonic, and behind them those of the form.
func (c code) words() (mnemonic, before, args string) {
	mnemonic, args, _ = strings.Cut(c.form, " ")
	switch mnemonic {
	case "a":
		mnemonic, before = c.arithmetic()
	case "o":
		mnemonic = [...]string{"RLC", "RRC", "RL", "RR", "SLA", "SRA", "SLL", "SRL"}[c.number('o')]
	}
	return mnemonic, before, args
}

// arithmetic returns the mnemonic of the field a, and the word of the operand
// that belongs to it, if there is one.
func (c code) arithmetic() (mnemonic, before string) {
	mnemonic = [...]string{"ADD", "ADC", "SUB", "SBC", "AND", "XOR", "OR", "CP"}[c.number('a')]
	switch mnemonic {
	case "ADD", "ADC", "SBC":
		before = "A,"
	}
	return mnemonic, before
}

func (c code) mnemonic() string {
	mnemonic, _, _ := c.words()
	return mnemonic
}

// The fields that are operands.

func (c code) register(letter byte) api.Operand {
	if n := c.number(letter); n != inMemory {
		return register(n)
	}
	return pointer(api.HL)
}

func (c code) pair(letter byte) api.Operand { return pair(c.number(letter)) }

// pushed differs from pair, since AF is pushed and SP is not.
func (c code) pushed(letter byte) api.Operand {
	if n := c.number(letter); n != api.SP {
		return pair(n)
	}
	return pair(api.AF)
}

func (c code) condition(letter byte) api.Operand {
	return api.Operand{Kind: api.Cond, Reg: c.number(letter)}
}

func (c code) bit(letter byte) api.Operand { return value(c.number(letter)) }

func (c code) restart(letter byte) api.Operand { return value(8 * c.number(letter)) }

// field returns what reads the field of a letter, or nil for other bytes.
func (c code) field(letter byte) func(letter byte) api.Operand {
	switch letter {
	case 'r', 's':
		return c.register
	case 'p':
		return c.pair
	case 'q':
		return c.pushed
	case 'c', 'k':
		return c.condition
	case 'b':
		return c.bit
	case 't':
		return c.restart
	}
	return nil
}

// operand returns the operand that a word of a form stands for, and the letter
// of Extra that it asks for.
func (c code) operand(word string) (o api.Operand, extra string) {
	switch word {
	case "e":
		return api.Operand{Kind: api.Rel}, word
	case "n", "w":
		return value(0), word
	case "(n)", "(w)":
		return api.Operand{Kind: api.Mem}, word[1:2]
	}
	if read := c.field(word[0]); read != nil {
		return read(word[0]), ""
	}
	return fixed(word), ""
}

// fixed returns the operand that is the same for all opcodes of a pattern.
func fixed(word string) api.Operand {
	switch word {
	case "A":
		return register(api.A)
	case "DE":
		return pair(api.DE)
	case "HL":
		return pair(api.HL)
	case "SP":
		return pair(api.SP)
	case "AF":
		return pair(api.AF)
	case "AF'":
		return pair(api.AF2)
	case "(BC)":
		return pointer(api.BC)
	case "(DE)":
		return pointer(api.DE)
	case "(HL)":
		return pointer(api.HL)
	case "(SP)":
		return pointer(api.SP)
	case "(C)":
		return pointer(api.IndC)
	case "I":
		return api.Operand{Kind: api.Ctl, Reg: api.RegI}
	case "R":
		return api.Operand{Kind: api.Ctl, Reg: api.RegR}
	}
	return value(int(word[0] - '0'))
}

// entry returns the entry of an opcode in a page that is built from its list,
// and true; or false, if it has none there.
func (c code) entry(page int) (Entry, bool) {
	switch page {
	case DD:
		return withRegister(c.plain(page), api.IX)
	case FD:
		return withRegister(c.plain(page), api.IY)
	case DDCB:
		return c.shifted(page, api.IX), true
	case FDCB:
		return c.shifted(page, api.IY), true
	}
	return c.plain(page), true
}

// plain returns the entry as the pattern says it.
func (c code) plain(page int) Entry {
	mnemonic, before, args := c.words()
	e := Entry{Page: page, Op: c.op, Instr: api.Instr{Op: mnemonic}}
	for args = before + args; args != ""; {
		var word string
		word, args, _ = strings.Cut(args, ",")
		o, extra := c.operand(word)
		e.Instr.Args = append(e.Instr.Args, o)
		e.Extra += extra
	}
	e.Alias = page == ED && isAlias(mnemonic, c.op)
	return e
}

// isAlias reports whether there is another opcode in ED or Main that is to be
// used instead.
func isAlias(mnemonic string, op byte) bool {
	switch mnemonic {
	case "NEG":
		return op != 0x44
	case "RETN":
		return op != 0x45
	case "IM":
		return op != 0x46 && op != 0x56 && op != 0x5E
	}
	return op == 0x63 || op == 0x6B
}

// shifted returns the entry of an opcode behind DD CB or FD CB, which always
// uses memory, and puts most results also into the register of the field s.
func (c code) shifted(page, index int) Entry {
	reg := c.number('s')
	op := c.op
	c.op = op&^7 | inMemory
	x := indexed{c.plain(page), index}
	x.Op = op
	x.replaceMemory()
	switch {
	case reg == inMemory:
	case x.Instr.Op == "BIT":
		x.Alias = true
	default:
		x.Instr.Args = append(x.Instr.Args, register(reg))
	}
	return x.Entry
}

// withRegister returns the entry of an opcode behind DD or FD, and true; or
// false, if the prefix has no effect.
func withRegister(e Entry, index int) (Entry, bool) {
	x := indexed{e, index}
	if x.replaceMemory() || x.replaceRegisters() {
		return x.Entry, true
	}
	return Entry{}, false
}

// indexed is an entry in which HL, or what depends on it, is replaced by an
// index register.
type indexed struct {
	Entry
	index int
}

// replaceMemory replaces (HL), and reports whether it is there.
func (x *indexed) replaceMemory() bool {
	at := slices.Index(x.Instr.Args, pointer(api.HL))
	if at < 0 || x.Instr.Op == "JP" {
		return false
	}
	x.Instr.Args[at] = api.Operand{Kind: api.Idx, Reg: x.index}
	x.Extra = "d" + x.Extra
	return true
}

// replaceRegisters replaces HL and its halves, and reports whether one is
// there.
func (x *indexed) replaceRegisters() bool {
	if x.Instr.Op == "EX" && slices.Contains(x.Instr.Args, pair(api.DE)) {
		return false
	}
	isChanged := false
	for k, o := range x.Instr.Args {
		x.Instr.Args[k] = x.operand(o)
		isChanged = isChanged || x.Instr.Args[k] != o
	}
	return isChanged
}

// operand returns what an operand becomes.
func (x *indexed) operand(o api.Operand) api.Operand {
	high, low := api.IXH, api.IXL
	if x.index == api.IY {
		high, low = api.IYH, api.IYL
	}
	switch o {
	case register(api.H):
		return half(high)
	case register(api.L):
		return half(low)
	case pair(api.HL):
		return pair(x.index)
	case pointer(api.HL):
		return pointer(x.index)
	}
	return o
}
