package show_test

import (
	"bytes"
	"math"
	"slices"
	"strings"
	"sync"
	"testing"

	"breadboard/api"
	"breadboard/canon"
	"breadboard/decode"
	"breadboard/num"
	"breadboard/show"
)

func of(op string, args ...api.Operand) api.Instr { return api.Instr{Op: op, Args: args} }

func imm(n int) api.Operand { return api.Operand{Kind: api.Imm, N: n} }

func mem(n int) api.Operand { return api.Operand{Kind: api.Mem, N: n} }

func rel(n int) api.Operand { return api.Operand{Kind: api.Rel, N: n} }

func cond(reg int) api.Operand { return api.Operand{Kind: api.Cond, Reg: reg} }

func ind(reg int) api.Operand { return api.Operand{Kind: api.Ind, Reg: reg} }

func reg8(reg int) api.Operand { return api.Operand{Kind: api.R8, Reg: reg} }

func half(reg int) api.Operand { return api.Operand{Kind: api.RX, Reg: reg} }

func reg16(reg int) api.Operand { return api.Operand{Kind: api.R16, Reg: reg} }

func control(reg int) api.Operand { return api.Operand{Kind: api.Ctl, Reg: reg} }

func idx(reg, n int) api.Operand { return api.Operand{Kind: api.Idx, Reg: reg, N: n} }

// bytesOf returns the bytes of a text with spaces between their digits.
func bytesOf(t *testing.T, text string) []byte {
	t.Helper()
	b, ok := num.Bytes(strings.ReplaceAll(text, " ", ""))
	if !ok {
		t.Fatal("no bytes:", text)
	}
	return b
}

// itemOf returns the first item of the bytes of a text, which has all of them.
func itemOf(t *testing.T, text string) api.Item {
	t.Helper()
	b := bytesOf(t, text)
	x := decode.First(b)
	if len(x.Raw) != len(b) {
		t.Fatal("no single item:", text)
	}
	return x
}

// stopIfFailed ends a test of very many inputs at the first that fails, so
// that its report stays short.
func stopIfFailed(t *testing.T) {
	t.Helper()
	if t.Failed() {
		t.FailNow()
	}
}

// printed has legal instructions and their texts.
var printed = []struct {
	i    api.Instr
	text string
}{
	// No operand
	{of("NOP"), "NOP"}, {of("RET"), "RET"}, {of("LDIR"), "LDIR"}, {of("EXX"), "EXX"}, {of("NEG"), "NEG"}, {of("HALT"), "HALT"}, {api.Instr{Op: "RETN", Args: []api.Operand{}}, "RETN"},
	// One operand of each kind that can be alone
	{of("INC", reg8(api.A)), "INC A"}, {of("DEC", reg8(api.L)), "DEC L"}, {of("INC", half(api.IXH)), "INC IXH"}, {of("DEC", half(api.IYL)), "DEC IYL"}, {of("PUSH", reg16(api.AF)), "PUSH AF"}, {of("POP", reg16(api.IY)), "POP IY"}, {of("INC", reg16(api.SP)), "INC SP"},
	{of("INC", ind(api.HL)), "INC (HL)"}, {of("JP", ind(api.IX)), "JP (IX)"}, {of("IN", ind(api.IndC)), "IN (C)"}, {of("RLC", idx(api.IX, 5)), "RLC (IX+5)"}, {of("XOR", imm(10)), "XOR 0AH"}, {of("JP", imm(0x1234)), "JP 1234H"}, {of("RET", cond(api.PO)), "RET PO"}, {of("JR", rel(5)), "JR $+7"}, {of("SLL", reg8(api.B)), "SLL B"},
	// Two operands
	{of("LD", reg8(api.B), reg8(api.C)), "LD B,C"}, {of("LD", half(api.IXL), half(api.IXH)), "LD IXL,IXH"}, {of("LD", half(api.IYH), imm(171)), "LD IYH,0ABH"}, {of("LD", reg16(api.SP), reg16(api.IX)), "LD SP,IX"}, {of("LD", reg8(api.A), mem(0xBEEF)), "LD A,(0BEEFH)"}, {of("LD", mem(256), reg16(api.HL)), "LD (100H),HL"}, {of("LD", ind(api.BC), reg8(api.A)), "LD (BC),A"}, {of("LD", reg8(api.A), control(api.RegR)), "LD A,R"}, {of("LD", control(api.RegI), reg8(api.A)), "LD I,A"}, {of("EX", ind(api.SP), reg16(api.HL)), "EX (SP),HL"}, {of("EX", reg16(api.AF), reg16(api.AF2)), "EX AF,AF'"}, {of("EX", reg16(api.DE), reg16(api.HL)), "EX DE,HL"}, {of("OUT", ind(api.IndC), imm(0)), "OUT (C),0"}, {of("OUT", ind(api.IndC), reg8(api.C)), "OUT (C),C"}, {of("OUT", mem(254), reg8(api.A)), "OUT (0FEH),A"}, {of("IN", reg8(api.A), mem(9)), "IN A,(9)"},
	{of("JR", cond(api.CY), rel(0)), "JR C,$+2"}, {of("JP", cond(api.M), imm(10)), "JP M,0AH"}, {of("CALL", cond(api.NZ), imm(9)), "CALL NZ,9"}, {of("BIT", imm(7), ind(api.HL)), "BIT 7,(HL)"}, {of("LD", idx(api.IY, -3), imm(5)), "LD (IY-3),5"}, {of("RR", idx(api.IY, 64), reg8(api.C)), "RR (IY+40H),C"}, {of("ADD", reg16(api.IX), reg16(api.BC)), "ADD IX,BC"},
	// Three operands
	{of("RES", imm(5), idx(api.IX, 1), reg8(api.B)), "RES 5,(IX+1),B"}, {of("SET", imm(0), idx(api.IY, -128), reg8(api.A)), "SET 0,(IY-80H),A"},
	// Numbers at both ends of their ranges, and where their forms change
	{of("LD", reg8(api.B), imm(0)), "LD B,0"}, {of("LD", reg8(api.B), imm(9)), "LD B,9"}, {of("LD", reg8(api.B), imm(10)), "LD B,0AH"}, {of("LD", reg8(api.B), imm(16)), "LD B,10H"}, {of("LD", reg8(api.B), imm(159)), "LD B,9FH"}, {of("LD", reg8(api.B), imm(160)), "LD B,0A0H"}, {of("LD", reg8(api.B), imm(255)), "LD B,0FFH"},
	{of("LD", reg16(api.HL), imm(0)), "LD HL,0"}, {of("LD", reg16(api.HL), imm(65535)), "LD HL,0FFFFH"}, {of("LD", reg16(api.IX), imm(32768)), "LD IX,8000H"}, {of("LD", reg8(api.A), mem(0)), "LD A,(0)"}, {of("LD", reg8(api.A), mem(65535)), "LD A,(0FFFFH)"}, {of("IN", reg8(api.A), mem(255)), "IN A,(0FFH)"},
	{of("LD", reg8(api.A), idx(api.IX, 0)), "LD A,(IX+0)"}, {of("LD", reg8(api.A), idx(api.IX, 127)), "LD A,(IX+7FH)"}, {of("LD", reg8(api.A), idx(api.IX, -1)), "LD A,(IX-1)"}, {of("LD", reg8(api.A), idx(api.IY, -10)), "LD A,(IY-0AH)"}, {of("LD", reg8(api.A), idx(api.IY, -128)), "LD A,(IY-80H)"},
	{of("DJNZ", rel(-128)), "DJNZ $-7EH"}, {of("DJNZ", rel(-12)), "DJNZ $-0AH"}, {of("DJNZ", rel(-3)), "DJNZ $-1"}, {of("DJNZ", rel(-2)), "DJNZ $+0"}, {of("DJNZ", rel(-1)), "DJNZ $+1"}, {of("DJNZ", rel(8)), "DJNZ $+0AH"}, {of("DJNZ", rel(127)), "DJNZ $+81H"},
	{of("RST", imm(0)), "RST 0"}, {of("RST", imm(8)), "RST 8"}, {of("RST", imm(16)), "RST 10H"}, {of("RST", imm(56)), "RST 38H"}, {of("IM", imm(0)), "IM 0"}, {of("IM", imm(2)), "IM 2"},
	// Forms that are not canonical: the register A left out, or in front
	{of("SUB", reg8(api.A), reg8(api.B)), "SUB B"}, {of("SUB", reg8(api.B)), "SUB B"}, {of("SUB", reg8(api.A)), "SUB A"}, {of("SUB", reg8(api.A), reg8(api.A)), "SUB A"}, {of("SUB", reg8(api.A), imm(-1)), "SUB 0FFH"}, {of("AND", reg8(api.A), ind(api.HL)), "AND (HL)"}, {of("XOR", reg8(api.A), half(api.IXL)), "XOR IXL"}, {of("OR", reg8(api.A), idx(api.IX, -1)), "OR (IX-1)"}, {of("CP", reg8(api.A), imm(5)), "CP 5"}, {of("CP", imm(-128)), "CP 80H"},
	{of("ADD", reg8(api.B)), "ADD A,B"}, {of("ADD", reg8(api.A)), "ADD A,A"}, {of("ADD", reg8(api.A), reg8(api.B)), "ADD A,B"}, {of("ADD", imm(-1)), "ADD A,0FFH"}, {of("ADC", ind(api.HL)), "ADC A,(HL)"}, {of("SBC", idx(api.IY, 2)), "SBC A,(IY+2)"}, {of("SBC", reg8(api.A), imm(3)), "SBC A,3"}, {of("SBC", reg16(api.HL), reg16(api.DE)), "SBC HL,DE"},
	// Forms that are not canonical: EX, and negative numbers
	{of("EX", reg16(api.HL), reg16(api.DE)), "EX DE,HL"}, {of("LD", reg8(api.B), imm(-1)), "LD B,0FFH"}, {of("LD", ind(api.HL), imm(-128)), "LD (HL),80H"}, {of("LD", idx(api.IX, -1), imm(-1)), "LD (IX-1),0FFH"}, {of("LD", reg16(api.HL), imm(-1)), "LD HL,0FFFFH"}, {of("LD", reg16(api.BC), imm(-32768)), "LD BC,8000H"}, {of("JP", imm(-2)), "JP 0FFFEH"}, {of("CALL", cond(api.CY), imm(-32768)), "CALL C,8000H"}, {of("CALL", imm(-256)), "CALL 0FF00H"},
}

// P15.1: the texts of legal instructions.
func TestInstr(t *testing.T) {
	for _, c := range printed {
		if got := show.Instr(c.i); got != c.text {
			t.Errorf("Instr(%v) = %q, want %q", c.i, got, c.text)
		}
	}
}

// illegal has instructions that are not legal.
var illegal = []api.Instr{
	// No mnemonic, or in other letters
	{}, of(""), of("FOO"), of("nop"), of("Nop"), of("NOP "), of(" NOP"), of("LD A,B"), of("DEFB", imm(5)), of("ORG", imm(5)), of("ld", reg8(api.A), reg8(api.B)), of("add", imm(-1)), of("\xFF"),
	// Other operands
	of("NOP", imm(0)), of("LD"), of("LD", imm(8)), of("LD", reg8(api.A)), of("LD", reg8(api.A), reg8(api.B), reg8(api.C)), of("LD", imm(1), reg8(api.A)), of("LD", ind(api.HL), ind(api.HL)), of("LD", reg8(api.H), half(api.IXL)), of("LD", half(api.IXH), half(api.IYL)), of("LD", half(api.IXH), idx(api.IX, 0)), of("ADD"), of("ADD", reg16(api.BC)), of("SUB"), of("SUB", reg8(api.B), reg8(api.C)), of("SUB", reg8(api.A), reg8(api.A), reg8(api.B)), of("EX"), of("EX", reg16(api.HL), reg16(api.BC)), of("EX", reg16(api.AF2), reg16(api.AF)), of("EX", reg16(api.DE), reg16(api.IX)), of("RET", reg8(api.C)), of("JR", cond(api.PO), rel(0)), of("JR", imm(0)), of("JP", rel(0)), of("JP", ind(api.BC)), of("JP", cond(api.Z), ind(api.HL)), of("JP", reg8(api.C), imm(0)), of("PUSH", reg16(api.SP)), of("OUT", ind(api.IndC), imm(1)), of("OUT", mem(254), reg8(api.B)), of("IN", reg8(api.B), mem(254)), of("ADD", reg16(api.IX), reg16(api.HL)), of("NEG", reg8(api.A)), of("RES", imm(0), ind(api.HL), reg8(api.B)), of("BIT", imm(0), idx(api.IX, 0), reg8(api.B)),
	of("RES", imm(0), idx(api.IX, 0), reg8(api.B), reg8(api.B)),
	// Numbers out of their ranges
	of("LD", reg8(api.B), imm(256)), of("LD", reg8(api.B), imm(-129)), of("LD", reg16(api.HL), imm(65536)), of("LD", reg16(api.HL), imm(-32769)), of("JP", imm(65536)), of("CP", imm(-129)), of("CP", imm(256)), of("ADD", imm(256)), of("LD", reg8(api.A), mem(65536)), of("LD", reg8(api.A), mem(-1)), of("IN", reg8(api.A), mem(256)), of("LD", reg8(api.A), idx(api.IX, 128)), of("LD", reg8(api.A), idx(api.IX, -129)), of("DJNZ", rel(128)), of("DJNZ", rel(-129)), of("BIT", imm(8), reg8(api.A)), of("BIT", imm(-1), reg8(api.A)), of("RST", imm(7)), of("RST", imm(64)), of("RST", imm(-8)), of("IM", imm(3)), of("IM", imm(-1)), of("LD", reg8(api.B), imm(math.MaxInt)), of("LD", reg8(api.B), imm(math.MinInt)), of("JP", imm(math.MinInt)),
	// Operands that are not valid
	of("INC", api.Operand{}), of("INC", reg8(6)), of("INC", reg8(8)), of("INC", reg8(-1)), of("INC", api.Operand{Kind: api.R8, Reg: api.B, N: 1}), of("ADD", api.Operand{Kind: 11}), of("LD", reg8(api.B), api.Operand{Kind: api.Imm, Reg: 1, N: 5}), of("RET", cond(8)), of("LD", reg8(api.A), idx(api.HL, 0)), of("INC", api.Operand{Kind: math.MaxInt, Reg: math.MinInt, N: math.MaxInt}), of("SUB", api.Operand{Kind: api.R8, Reg: api.A, N: 1}, reg8(api.B)),
}

// P15.1: instructions that are not legal.
func TestIllegal(t *testing.T) {
	for _, i := range illegal {
		if got := show.Instr(i); got != "" {
			t.Errorf("Instr(%v) = %q", i, got)
		}
	}
}

// P15.1: lines of data.
func TestData(t *testing.T) {
	for _, c := range []struct{ raw, want string }{
		{"", ""}, {"00", "DEFB 0"}, {"01", "DEFB 1"}, {"09", "DEFB 9"}, {"0A", "DEFB 0AH"}, {"0F", "DEFB 0FH"}, {"10", "DEFB 10H"}, {"7F", "DEFB 7FH"}, {"80", "DEFB 80H"}, {"99", "DEFB 99H"}, {"9F", "DEFB 9FH"}, {"A0", "DEFB 0A0H"}, {"FF", "DEFB 0FFH"},
		{"00 00", "DEFB 0,0"}, {"00 FF", "DEFB 0,0FFH"}, {"FF 00", "DEFB 0FFH,0"}, {"09 0A A0", "DEFB 9,0AH,0A0H"}, {"DD CB 05 FE 12", "DEFB 0DDH,0CBH,5,0FEH,12H"}, {"21 34 12", "DEFB 21H,34H,12H"},
	} {
		if got := show.Data(bytesOf(t, c.raw)...); got != c.want {
			t.Errorf("Data(%s) = %q, want %q", c.raw, got, c.want)
		}
	}
	if got := show.Data(); got != "" {
		t.Errorf("Data() = %q", got)
	}
}

// P15.1: each byte, and many of them.
func TestManyBytes(t *testing.T) {
	var all []byte
	var texts []string
	for n := range 256 {
		all = append(all, byte(n))
		texts = append(texts, num.Text(n))
		if got := show.Data(byte(n)); got != "DEFB "+texts[n] {
			t.Errorf("Data(%d) = %q", n, got)
		}
	}
	if got := show.Data(all...); got != "DEFB "+strings.Join(texts, ",") {
		t.Errorf("Data of all bytes is %q", got)
	}
	const n = 1 << 20
	if got := show.Data(make([]byte, n)...); got != "DEFB 0"+strings.Repeat(",0", n-1) {
		t.Error("the line of very many bytes is another one")
	}
}

// shown has items and their texts.
var shown = []struct{ raw, text string }{
	{"00", "NOP"}, {"3E 05", "LD A,5"}, {"21 34 12", "LD HL,1234H"}, {"10 FE", "DJNZ $+0"}, {"20 80", "JR NZ,$-7EH"}, {"DB FE", "IN A,(0FEH)"}, {"EE 0A", "XOR 0AH"}, {"87", "ADD A,A"}, {"90", "SUB B"}, {"EB", "EX DE,HL"}, {"C3 FF FF", "JP 0FFFFH"}, {"D8", "RET C"}, {"FF", "RST 38H"}, {"CB 37", "SLL A"}, {"ED 70", "IN (C)"}, {"ED 71", "OUT (C),0"}, {"ED 44", "NEG"}, {"ED 46", "IM 0"}, {"ED 7B 01 00", "LD SP,(1)"}, {"DD 7E 80", "LD A,(IX-80H)"}, {"FD 36 05 FF", "LD (IY+5),0FFH"}, {"DD 24", "INC IXH"}, {"DD CB 01 A8", "RES 5,(IX+1),B"}, {"FD CB FE 30", "SLL (IY-2),B"}, {"FD CB 00 7E", "BIT 7,(IY+0)"},
	// Aliases
	{"ED 4C", "DEFB 0EDH,4CH"}, {"ED 63 34 12", "DEFB 0EDH,63H,34H,12H"}, {"ED 6B 00 00", "DEFB 0EDH,6BH,0,0"}, {"ED 5D", "DEFB 0EDH,5DH"}, {"ED 76", "DEFB 0EDH,76H"}, {"DD CB 01 68", "DEFB 0DDH,0CBH,1,68H"},
	// Strays, Holes, and beginnings of instructions
	{"DD", "DEFB 0DDH"}, {"FD", "DEFB 0FDH"}, {"ED 00", "DEFB 0EDH,0"}, {"ED FF", "DEFB 0EDH,0FFH"}, {"ED", "DEFB 0EDH"}, {"CB", "DEFB 0CBH"}, {"21 34", "DEFB 21H,34H"}, {"DD CB 05", "DEFB 0DDH,0CBH,5"}, {"3E", "DEFB 3EH"},
}

// P15.2: the texts of items.
func TestItem(t *testing.T) {
	for _, c := range shown {
		if got := show.Item(itemOf(t, c.raw)); got != c.text {
			t.Errorf("Item(%s) = %q, want %q", c.raw, got, c.text)
		}
	}
}

// P15.2: a prefix at the end, and one that has no effect, have the same text.
func TestKindsOfPrefixes(t *testing.T) {
	for _, kind := range []int{api.Stray, api.Truncated} {
		if got := show.Item(api.Item{Kind: kind, Raw: []byte{0xDD}}); got != "DEFB 0DDH" {
			t.Errorf("Item of the kind %d is %q", kind, got)
		}
	}
}

// P15.2: items that no bytes have.
func TestOddItems(t *testing.T) {
	five := of("LD", reg8(api.A), imm(5))
	for _, c := range []struct {
		x    api.Item
		text string
	}{
		{api.Item{}, ""}, {api.Item{Alias: true}, ""},
		// Without bytes
		{api.Item{Kind: api.Code1, Instr: five}, "LD A,5"}, {api.Item{Kind: api.Code1, Instr: five, Alias: true}, ""}, {api.Item{Kind: api.Stray}, ""}, {api.Item{Kind: api.Hole, Raw: []byte{}}, ""}, {api.Item{Kind: api.Truncated, Instr: five}, ""},
		// With bytes of another instruction, or of none
		{api.Item{Kind: api.Code1, Raw: []byte{0}, Instr: five}, "LD A,5"}, {api.Item{Kind: api.Code1, Raw: []byte{1, 2, 3, 4, 5}, Instr: five}, "LD A,5"}, {api.Item{Kind: api.Code1, Raw: []byte{0x3E, 5}, Instr: five, Alias: true}, "DEFB 3EH,5"},
		// With an instruction that is not legal, or not in its canonical form
		{api.Item{Kind: api.Code1, Raw: []byte{0}}, ""}, {api.Item{Kind: api.Code1, Raw: []byte{0}, Instr: of("nop")}, ""}, {api.Item{Kind: api.Code1, Raw: []byte{0}, Instr: of("FOO"), Alias: true}, "DEFB 0"}, {api.Item{Kind: api.Code1, Raw: []byte{0xC6, 0xFF}, Instr: of("ADD", imm(-1))}, "ADD A,0FFH"},
		// Of other kinds, which have no instruction
		{api.Item{Kind: api.Stray, Raw: []byte{0xDD}, Instr: five}, "DEFB 0DDH"}, {api.Item{Kind: api.Hole, Raw: []byte{0x3E, 5}, Instr: five, Alias: true}, "DEFB 3EH,5"}, {api.Item{Kind: api.Truncated, Raw: []byte{0x3E, 5, 0, 0, 0xFF}, Instr: five}, "DEFB 3EH,5,0,0,0FFH"}, {api.Item{Raw: []byte{1}, Instr: five}, "DEFB 1"},
		// Of kinds that there are not
		{api.Item{Kind: 5, Raw: []byte{1, 2}, Instr: five}, "DEFB 1,2"}, {api.Item{Kind: -1, Raw: []byte{1}, Instr: five}, "DEFB 1"}, {api.Item{Kind: 257, Raw: []byte{1}, Instr: five}, "DEFB 1"}, {api.Item{Kind: 1<<32 + 1, Raw: []byte{1}, Instr: five}, "DEFB 1"}, {api.Item{Kind: math.MinInt, Raw: []byte{1}}, "DEFB 1"}, {api.Item{Kind: math.MaxInt}, ""},
	} {
		if got := show.Item(c.x); got != c.text {
			t.Errorf("Item(%v) = %q, want %q", c.x, got, c.text)
		}
		if got := show.Items(c.x); len(got) != 1 || got[0] != c.text {
			t.Errorf("Items(%v) = %q, want %q", c.x, got, c.text)
		}
	}
}

// P15.2: the texts of no items, of one and of many.
func TestItems(t *testing.T) {
	if got := show.Items(); len(got) != 0 {
		t.Errorf("Items() = %q", got)
	}
	var l []api.Item
	var want []string
	for _, c := range shown {
		l, want = append(l, itemOf(t, c.raw)), append(want, c.text)
		if got := show.Items(l...); !slices.Equal(got, want) {
			t.Errorf("Items = %q, want %q", got, want)
		}
	}
	slices.Reverse(l)
	slices.Reverse(want)
	if got := show.Items(l...); !slices.Equal(got, want) {
		t.Errorf("Items = %q, want %q", got, want)
	}
	// Items without a text have their places as well
	l, want = []api.Item{{}, l[0], {Kind: api.Code1}, l[0], {}}, []string{"", want[0], "", want[0], ""}
	if got := show.Items(l...); !slices.Equal(got, want) {
		t.Errorf("Items = %q, want %q", got, want)
	}
}

// P15.4: instructions with the same text have the same canonical form, and the
// other way round, by pairs of them.
func TestPairs(t *testing.T) {
	var l []api.Instr
	for _, c := range printed {
		l = append(l, c.i)
	}
	legal := len(l)
	l = append(l, illegal...)
	for j, a := range l {
		for k, b := range l {
			want := canon.Equal(a, b) || j >= legal && k >= legal
			if got := show.Instr(a) == show.Instr(b); got != want {
				t.Errorf("%v and %v have the same text: %t", a, b, got)
			}
		}
		stopIfFailed(t)
	}
}

// withRoom returns an item with the same fields, behind whose slices there is
// more memory.
func withRoom(x api.Item) api.Item {
	x.Raw = append(slices.Clone(x.Raw), 0x55, 0xAA, 0x55)[:len(x.Raw)]
	more := []api.Operand{{Kind: 99, Reg: 98, N: 97}, {Kind: 96, Reg: 95, N: 94}}
	x.Instr.Args = append(slices.Clone(x.Instr.Args), more...)[:len(x.Instr.Args)]
	return x
}

// isSame compares all fields of items, also what is behind their slices.
func isSame(a, b api.Item) bool {
	return a.Kind == b.Kind && bytes.Equal(a.Raw[:cap(a.Raw)], b.Raw[:cap(b.Raw)]) && a.Instr.Op == b.Instr.Op && slices.Equal(a.Instr.Args[:cap(a.Instr.Args)], b.Instr.Args[:cap(b.Instr.Args)]) && a.Alias == b.Alias
}

// Rule 4: arguments are not changed, and nothing behind them.
func TestArgumentsStay(t *testing.T) {
	var l, before []api.Item
	add := func(x api.Item) {
		l, before = append(l, withRoom(x)), append(before, withRoom(x))
	}
	for _, c := range shown {
		add(itemOf(t, c.raw))
	}
	for _, c := range printed {
		add(api.Item{Kind: api.Code1, Raw: []byte{1, 2}, Instr: c.i})
		add(api.Item{Kind: api.Code1, Raw: []byte{1, 2}, Instr: c.i, Alias: true})
	}
	for _, i := range illegal {
		add(api.Item{Kind: api.Code1, Instr: i})
	}
	for k, x := range l {
		show.Instr(x.Instr)
		show.Data(x.Raw...)
		show.Item(x)
		show.Row(5, x)
		if !isSame(x, before[k]) {
			t.Errorf("an item has changed: %v, want %v", x, before[k])
		}
	}
	show.Items(l...)
	show.Table(100, l...)
	if !slices.EqualFunc(l, before, isSame) {
		t.Error("items have changed")
	}
}

// Rule 4: results are new memory, and stay if the arguments change.
func TestResultsAreNew(t *testing.T) {
	b := []byte{0xDD, 0x7E, 0x05}
	x := decode.First(b)
	data, text, row, table, texts, others := show.Data(b...), show.Item(x), show.Row(0, x), show.Table(0, x, x), show.Items(x, x), show.Items(x, x)
	for k := range b {
		b[k], x.Raw[k] = 0, 0
	}
	x.Instr.Args[0] = api.Operand{}
	texts[0] = "spoiled"
	if data != "DEFB 0DDH,7EH,5" || text != "LD A,(IX+5)" || row != "0000  DD 7E 05    LD A,(IX+5)" || table != row+"\n0003"+row[4:]+"\n" || texts[1] != text || others[0] != text {
		t.Errorf("results have changed: %q, %q, %q, %q, %q, %q", data, text, row, table, texts, others)
	}
}

// P1, P2 and rule 6: the functions may be called concurrently.
func TestConcurrently(t *testing.T) {
	var l []api.Item
	for _, c := range shown {
		l = append(l, itemOf(t, c.raw))
	}
	table := show.Table(0, l...)
	var wg sync.WaitGroup
	for range 8 {
		wg.Go(func() {
			for _, c := range printed {
				if got := show.Instr(c.i); got != c.text {
					t.Errorf("Instr(%v) = %q, want %q", c.i, got, c.text)
				}
			}
			for k, got := range show.Items(l...) {
				if got != shown[k].text {
					t.Errorf("Items[%d] = %q, want %q", k, got, shown[k].text)
				}
			}
			if got := show.Table(0, l...); got != table {
				t.Errorf("Table = %q, want %q", got, table)
			}
		})
	}
	wg.Wait()
}

// Examples of the chapter.
func TestExamples(t *testing.T) {
	if got := show.Instr(of("ADD", imm(-1))); got != "ADD A,0FFH" {
		t.Errorf("Instr = %q", got)
	}
	if got := show.Row(256, decode.First([]byte{0x21, 0x34, 0x12})); got != "0100  21 34 12    LD HL,1234H" {
		t.Errorf("Row = %q", got)
	}
}
