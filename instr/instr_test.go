package instr_test

import (
	"fmt"
	"math"
	"math/rand"
	"slices"
	"strconv"
	"strings"
	"sync"
	"testing"

	"breadboard/api"
	"breadboard/instr"
)

// mnemonics has all mnemonics in ascending order of bytes.
var mnemonics = strings.Fields(`
	ADC ADD AND BIT CALL CCF CP CPD CPDR CPI CPIR CPL DAA DEC DI DJNZ EI EX EXX HALT IM IN INC IND INDR INI INIR
	JP JR LD LDD LDDR LDI LDIR NEG NOP OR OTDR OTIR OUT OUTD OUTI POP PUSH RES RET RETI RETN
	RL RLA RLC RLCA RLD RR RRA RRC RRCA RRD RST SBC SCF SET SLA SLL SRA SRL SUB XOR`)

// marks has the marks of all valid operands without a number.
var marks = map[api.Operand]string{
	{Kind: 1, Reg: 0}: "B", {Kind: 1, Reg: 1}: "C", {Kind: 1, Reg: 2}: "D", {Kind: 1, Reg: 3}: "E",
	{Kind: 1, Reg: 4}: "H", {Kind: 1, Reg: 5}: "L", {Kind: 1, Reg: 7}: "A",
	{Kind: 2, Reg: 0}: "IXH", {Kind: 2, Reg: 1}: "IXL", {Kind: 2, Reg: 2}: "IYH", {Kind: 2, Reg: 3}: "IYL",
	{Kind: 3, Reg: 0}: "BC", {Kind: 3, Reg: 1}: "DE", {Kind: 3, Reg: 2}: "HL", {Kind: 3, Reg: 3}: "SP",
	{Kind: 3, Reg: 4}: "AF", {Kind: 3, Reg: 5}: "IX", {Kind: 3, Reg: 6}: "IY", {Kind: 3, Reg: 7}: "AF'",
	{Kind: 4, Reg: 0}: "(BC)", {Kind: 4, Reg: 1}: "(DE)", {Kind: 4, Reg: 2}: "(HL)", {Kind: 4, Reg: 3}: "(SP)",
	{Kind: 4, Reg: 5}: "(IX)", {Kind: 4, Reg: 6}: "(IY)", {Kind: 4, Reg: 8}: "(C)",
	{Kind: 8, Reg: 0}: "NZ", {Kind: 8, Reg: 1}: "Z", {Kind: 8, Reg: 2}: "NC", {Kind: 8, Reg: 3}: "C",
	{Kind: 8, Reg: 4}: "PO", {Kind: 8, Reg: 5}: "PE", {Kind: 8, Reg: 6}: "P", {Kind: 8, Reg: 7}: "M",
	{Kind: 9, Reg: 0}: "I", {Kind: 9, Reg: 1}: "R",
}

// ranges has the kinds and registers of all operands with a number, with
// their marks and the ends of the number.
var ranges = []struct {
	kind, reg int
	mark      string
	lo, hi    int
}{
	{5, 5, "(IX+d)", -128, 127}, {5, 6, "(IY+d)", -128, 127}, {6, 0, "n", -32768, 65535}, {7, 0, "(n)", 0, 65535}, {10, 0, "e", -128, 127},
}

// markOf returns the mark of an operand, and "" for one that is not valid,
// without the packages of the program.
func markOf(o api.Operand) string {
	for _, r := range ranges {
		if o.Kind == r.kind && o.Reg == r.reg && r.lo <= o.N && o.N <= r.hi {
			return r.mark
		}
	}
	return marks[o]
}

// checkOf, shapeOf and numbersOf are models of Check, Shape and Numbers.
func checkOf(i api.Instr) api.Code {
	isWrong := func(o api.Operand) bool { return markOf(o) == "" }
	switch {
	case !slices.Contains(mnemonics, i.Op):
		return api.ErrName
	case len(i.Args) >= 4:
		return api.ErrShape
	case slices.ContainsFunc(i.Args, isWrong):
		return api.ErrRange
	}
	return api.OK
}

func shapeOf(i api.Instr) string {
	if checkOf(i) != api.OK {
		return ""
	}
	var l []string
	for _, o := range i.Args {
		l = append(l, markOf(o))
	}
	return strings.TrimSuffix(i.Op+" "+strings.Join(l, ","), " ")
}

func numbersOf(i api.Instr) []int {
	var l []int
	for _, o := range i.Args {
		if slices.Contains([]int{5, 6, 7, 10}, o.Kind) {
			l = append(l, o.N)
		}
	}
	return l
}

// operands returns all valid operands without a number, in a fixed order, and
// those with a number that is at or near an end of its range.
func operands() []api.Operand {
	var l []api.Operand
	for kind := range 12 {
		for reg := range 12 {
			o := api.Operand{Kind: kind, Reg: reg}
			if marks[o] != "" {
				l = append(l, o)
			}
		}
	}
	for _, r := range ranges {
		for _, n := range []int{r.lo, r.lo + 1, 0, 1, 5, 127, r.hi - 1, r.hi} {
			l = append(l, api.Operand{Kind: r.kind, Reg: r.reg, N: n})
		}
	}
	return l
}

// wrongOperands has operands that are not valid.
var wrongOperands = []api.Operand{
	{}, {Kind: -1}, {Kind: 11}, {Kind: math.MaxInt}, {Kind: math.MinInt}, {Reg: 1}, {N: 1},
	{Kind: api.R8, Reg: 6}, {Kind: api.R8, Reg: 8}, {Kind: api.R8, Reg: -1}, {Kind: api.R8, N: 1}, {Kind: api.RX, Reg: 4}, {Kind: api.R16, Reg: 8},
	{Kind: api.Ind, Reg: api.AF}, {Kind: api.Ind, Reg: api.AF2}, {Kind: api.Ind, Reg: 9}, {Kind: api.Ind, Reg: api.HL, N: -1},
	{Kind: api.Idx, Reg: api.HL}, {Kind: api.Idx}, {Kind: api.Idx, Reg: api.IX, N: 128}, {Kind: api.Idx, Reg: api.IY, N: -129},
	{Kind: api.Imm, N: 65536}, {Kind: api.Imm, N: -32769}, {Kind: api.Imm, Reg: 1}, {Kind: api.Imm, N: math.MinInt}, {Kind: api.Imm, N: math.MaxInt},
	{Kind: api.Mem, N: -1}, {Kind: api.Mem, N: 65536}, {Kind: api.Mem, Reg: 5, N: 7}, {Kind: api.Cond, Reg: 8}, {Kind: api.Cond, Reg: 1, N: 1},
	{Kind: api.Ctl, Reg: 2}, {Kind: api.Ctl, Reg: -1}, {Kind: api.Rel, N: 128}, {Kind: api.Rel, N: -129}, {Kind: api.Rel, Reg: 1},
}

func imm(n int) api.Operand      { return api.Operand{Kind: api.Imm, N: n} }
func mem(n int) api.Operand      { return api.Operand{Kind: api.Mem, N: n} }
func rel(n int) api.Operand      { return api.Operand{Kind: api.Rel, N: n} }
func idx(reg, n int) api.Operand { return api.Operand{Kind: api.Idx, Reg: reg, N: n} }
func r8(reg int) api.Operand     { return api.Operand{Kind: api.R8, Reg: reg} }
func r16(reg int) api.Operand    { return api.Operand{Kind: api.R16, Reg: reg} }

// of returns an instruction without the function Make.
func of(op string, args ...api.Operand) api.Instr { return api.Instr{Op: op, Args: args} }

// isSame compares instructions without the function Same.
func isSame(a, b api.Instr) bool {
	if a.Op != b.Op || len(a.Args) != len(b.Args) {
		return false
	}
	for k := range a.Args {
		if a.Args[k] != b.Args[k] {
			return false
		}
	}
	return true
}

// copyOf returns an instruction that shares no memory with another.
func copyOf(i api.Instr) api.Instr {
	c := api.Instr{Op: i.Op}
	for _, o := range i.Args {
		c.Args = append(c.Args, o)
	}
	return c
}

// stopIfFailed ends a test of very many inputs at the first that fails, so
// that its report stays short.
func stopIfFailed(t *testing.T) {
	t.Helper()
	if t.Failed() {
		t.FailNow()
	}
}

// wantParts compares Check, Shape and Numbers with the models, and sees that
// they leave the instruction as it was.
func wantParts(t *testing.T, i api.Instr) {
	t.Helper()
	before := copyOf(i)
	if got := instr.Check(i); got != checkOf(i) {
		t.Errorf("Check(%v) = %d; want %d", i, got, checkOf(i))
	}
	if got := instr.Shape(i); got != shapeOf(i) {
		t.Errorf("Shape(%v) = %q; want %q", i, got, shapeOf(i))
	}
	if got := instr.Numbers(i); !slices.Equal(got, numbersOf(i)) {
		t.Errorf("Numbers(%v) = %v; want %v", i, got, numbersOf(i))
	}
	if !isSame(before, i) {
		t.Errorf("%v was changed to %v", before, i)
	}
}

// P7.1: all mnemonics in order, as new memory at each call.
func TestOps(t *testing.T) {
	if len(mnemonics) != 68 || !slices.IsSorted(mnemonics) {
		t.Fatalf("the test has %d mnemonics", len(mnemonics))
	}
	first := instr.Ops()
	if !slices.Equal(first, mnemonics) {
		t.Errorf("Ops() = %q; want %q", first, mnemonics)
	}
	other := instr.Ops()
	for i := range first {
		first[i] = "changed"
	}
	if !slices.Equal(other, mnemonics) || !slices.Equal(instr.Ops(), mnemonics) {
		t.Error("Ops returned the same memory twice")
	}
	if !instr.Known("ADC") || instr.Known("changed") {
		t.Error("a change of a result of Ops changes Known")
	}
}

// asciiUpper returns a text with capital letters instead of a to z.
func asciiUpper(s string) string {
	b := []byte(s)
	for i, c := range b {
		if 'a' <= c && c <= 'z' {
			b[i] = c - 32
		}
	}
	return string(b)
}

func wantKnown(t *testing.T, word string) {
	t.Helper()
	want := slices.Contains(mnemonics, asciiUpper(word))
	if got := instr.Known(word); got != want {
		t.Errorf("Known(%q) = %v; want %v", word, got, want)
	}
}

// cases returns a word with each choice of capital and small letters.
func cases(word string) []string {
	l := []string{""}
	for i := range len(word) {
		var next []string
		for _, s := range l {
			next = append(next, s+strings.ToUpper(word[i:i+1]), s+strings.ToLower(word[i:i+1]))
		}
		l = next
	}
	return l
}

// P7.1: every mnemonic in capital, small and mixed letters.
func TestKnown(t *testing.T) {
	for _, op := range mnemonics {
		for _, word := range cases(op) {
			if !instr.Known(word) {
				t.Errorf("Known(%q) = false", word)
			}
		}
	}
}

// P7.1: words that are no mnemonics, among them directives, names of
// operands, and letters that only some rules of case take for letters from A
// to Z.
func TestKnownOfOtherWords(t *testing.T) {
	for _, word := range []string{
		"", " ", "\x00", "L", "D", "LDX", "LD ", " LD", "\tLD", "LD\n", "LD\x00", "LD A", "LD,", "LD:", "(LD)", "L D", "LDLD", "NOPNOP", "ADC,ADD", "ADC ADD",
		"ORG", "EQU", "DEFB", "DEFW", "DEFS", "DB", "DW", "DS", "END", "A", "HL", "AF'", "NZ", "C", "IX", "I", "R", "M", "P", "$", "0", "1",
		"MOV", "SLI", "SL1", "SLS", "EXA", "STOP", "TEST", "MULT", "SWAP", "OTD", "OTI", "OUTDR", "OUTIR", "OUTR", "INR", "CPR", "LDR", "RETX", "CALLR", "JMP", "BRK", "DJN", "JN",
		"\u017fub", "S\u016aB", "d\u0131", "D\u0130", "\uff2c\uff24", "l\u0434", "\u00e1dd", "add\u0301", "ad\xe4", "\xff", "ADD\xff", "\xc3\x84DD",
		"@DC", "`dc", "[dc", "{dc", "ad#", "AD\"", strings.Repeat("NOP", 50000), strings.Repeat(" ", 100000) + "NOP",
	} {
		if instr.Known(word) {
			t.Errorf("Known(%q) = true", word)
		}
	}
}

// P7.1: all texts of up to two bytes, all words of three letters, and every
// mnemonic with one byte changed, put in or taken out.
func TestKnownOfWordsBesideTheMnemonics(t *testing.T) {
	for a := range 256 {
		wantKnown(t, string([]byte{byte(a)}))
		for b := range 256 {
			wantKnown(t, string([]byte{byte(a), byte(b)}))
		}
		stopIfFailed(t)
	}
	const letters = "ABCDEFGHIJKLMNOPQRSTUVWXYZ"
	for _, a := range letters {
		for _, b := range letters {
			for _, c := range letters {
				wantKnown(t, string([]rune{a, b, c}))
			}
		}
		stopIfFailed(t)
	}
	for _, op := range mnemonics {
		for at := range len(op) + 1 {
			wantKnown(t, op[:max(at-1, 0)]+op[at:])
			for c := range 256 {
				s := string([]byte{byte(c)})
				wantKnown(t, op[:at]+s+op[at:])
				wantKnown(t, op[:max(at-1, 0)]+s+op[at:])
			}
		}
		stopIfFailed(t)
	}
}

// P7.1: the Op in capital letters, also if it is no mnemonic, and the
// operands as they are, also if they are not valid.
func TestMake(t *testing.T) {
	lists := [][]api.Operand{nil, {}, {r8(api.A)}, {r8(api.A), imm(5)}, {imm(1), idx(api.IX, 2), r8(api.B)}, {imm(1), imm(2), imm(3), imm(4)}, wrongOperands}
	words := map[string]string{
		"": "", "ld": "LD", "LD": "LD", "Ld": "LD", "lDiR": "LDIR", "foo": "FOO", "ld a": "LD A", " nop\n": " NOP\n", "defb": "DEFB", "af'": "AF'", "x1_y": "X1_Y",
		"z{`@[": "Z{`@[", "\u017fub": "\u017fUB", "\u00e4dd": "\u00e4DD", "d\u0131": "D\u0131", "\xe4\xff": "\xe4\xff", "\x00a": "\x00A",
	}
	for word, op := range words {
		for _, l := range lists {
			before := slices.Clone(l)
			if got := instr.Make(word, l...); !isSame(got, of(op, before...)) {
				t.Errorf("Make(%q, %v) = %v; want %q with the same operands", word, before, got, op)
			}
			if !slices.Equal(before, l) {
				t.Errorf("Make changed %v to %v", before, l)
			}
		}
	}
	for _, op := range mnemonics {
		for _, word := range cases(op) {
			if got := instr.Make(word); !isSame(got, of(op)) {
				t.Errorf("Make(%q) = %v", word, got)
			}
		}
	}
}

// P7.1: the operands are a copy; what lies behind a slice's length stays as
// it is.
func TestMakeCopies(t *testing.T) {
	l := []api.Operand{r8(api.A), imm(5), imm(6), imm(7)}
	for n := range len(l) + 1 {
		i := instr.Make("ld", l[:n]...)
		want := of("LD", slices.Clone(l[:n])...)
		for k := range i.Args {
			i.Args[k] = rel(1)
		}
		i.Args = append(i.Args, rel(2))
		if !slices.Equal(l, []api.Operand{r8(api.A), imm(5), imm(6), imm(7)}) {
			t.Fatalf("a change of a result of Make changed its arguments to %v", l)
		}
		i = instr.Make("ld", l[:n]...)
		for k := range n {
			l[k] = mem(9)
		}
		if !isSame(i, want) {
			t.Errorf("a change of the arguments of Make changed its result to %v", i)
		}
		l = []api.Operand{r8(api.A), imm(5), imm(6), imm(7)}
	}
}

// P7.2: each code, and the first of several.
func TestCheck(t *testing.T) {
	good, bad := r8(api.A), imm(65536)
	for _, c := range []struct {
		i    api.Instr
		want api.Code
	}{
		{of("NOP"), api.OK}, {of("NOP", []api.Operand{}...), api.OK}, {of("LD", good, good), api.OK}, {of("XOR", good, good, good), api.OK}, {of("EXX", imm(-32768), mem(65535), rel(-128)), api.OK},
		{of(""), api.ErrName}, {of("nop"), api.ErrName}, {of("Nop"), api.ErrName}, {of("nOP"), api.ErrName}, {of("NOp"), api.ErrName}, {of("NOP "), api.ErrName}, {of(" NOP"), api.ErrName}, {of("FOO"), api.ErrName}, {of("DEFB"), api.ErrName}, {api.Instr{}, api.ErrName},
		{of("foo", good, good, good, good), api.ErrName}, {of("foo", bad), api.ErrName}, {of("ld", bad), api.ErrName}, {of("foo", bad, bad, bad, bad), api.ErrName}, {of("", api.Operand{}), api.ErrName},
		{of("LD", good, good, good, good), api.ErrShape}, {of("LD", bad, bad, bad, bad), api.ErrShape}, {of("LD", good, good, good, bad), api.ErrShape}, {of("LD", bad, good, good, good), api.ErrShape},
		{of("LD", slices.Repeat([]api.Operand{good}, 5)...), api.ErrShape}, {of("LD", slices.Repeat([]api.Operand{good}, 100000)...), api.ErrShape},
		{of("LD", bad), api.ErrRange}, {of("LD", bad, good), api.ErrRange}, {of("LD", good, bad), api.ErrRange}, {of("LD", bad, bad), api.ErrRange},
		{of("LD", bad, good, good), api.ErrRange}, {of("LD", good, bad, good), api.ErrRange}, {of("LD", good, good, bad), api.ErrRange}, {of("LD", bad, bad, bad), api.ErrRange}, {of("LD", api.Operand{}), api.ErrRange},
	} {
		if got := instr.Check(c.i); got != c.want {
			t.Errorf("Check(%v) = %d; want %d", c.i, got, c.want)
		}
		wantParts(t, c.i)
	}
}

// P7.2, P7.3: all mnemonics in all cases, with every valid operand and every
// one that is not valid in every place.
func TestPartsOfAllOperands(t *testing.T) {
	all := slices.Concat(operands(), wrongOperands)
	for _, op := range mnemonics {
		for _, word := range cases(op) {
			wantParts(t, of(word))
		}
		for _, o := range all {
			wantParts(t, of(op, o))
		}
		stopIfFailed(t)
	}
	for _, a := range all {
		for _, b := range all {
			wantParts(t, of("SET", a, b))
		}
		for at := range 3 {
			l := []api.Operand{r8(api.B), r8(api.C), r8(api.D)}
			l[at] = a
			wantParts(t, of("SRL", l...))
			wantParts(t, of("srl", l...))
			wantParts(t, of("SRL", append(l, r8(api.E))...))
		}
		stopIfFailed(t)
	}
}

// numbersAround returns numbers at and just beside two ends, and others far
// inside and outside of them.
func numbersAround(lo, hi int) []int {
	var l []int
	for d := -5; d <= 5; d++ {
		l = append(l, lo+d, hi+d, d)
	}
	for n := -70000; n <= 70000; n += 23 {
		l = append(l, n)
	}
	return l
}

// P7.2, P7.3: numbers at both ends, inside and outside of them.
func TestPartsOfManyNumbers(t *testing.T) {
	for _, r := range ranges {
		for _, n := range numbersAround(r.lo, r.hi) {
			wantParts(t, of("LD", api.Operand{Kind: r.kind, Reg: r.reg, N: n}))
		}
		stopIfFailed(t)
	}
}

// P7.2, P7.3: random instructions, right and wrong.
func TestPartsOfRandomInstructions(t *testing.T) {
	r := rand.New(rand.NewSource(7))
	all := operands()
	right := 0
	for range 50000 {
		i := of(mnemonics[r.Intn(len(mnemonics))])
		for range r.Intn(5) {
			o := all[r.Intn(len(all))]
			if r.Intn(20) == 0 {
				o = wrongOperands[r.Intn(len(wrongOperands))]
			}
			i.Args = append(i.Args, o)
		}
		if r.Intn(20) == 0 {
			i.Op = strings.ToLower(i.Op)
		}
		wantParts(t, i)
		if instr.Check(i) == api.OK {
			right++
		}
		stopIfFailed(t)
	}
	if right < 20000 {
		t.Errorf("only %d instructions are right", right)
	}
}

// P7.3: the marks of all kinds, as the chapter has them, and the examples.
func TestShape(t *testing.T) {
	for _, c := range []struct {
		want string
		i    api.Instr
	}{
		{"NOP", of("NOP")}, {"LD (IX+d),n", of("LD", idx(api.IX, 5), imm(7))}, {"LD (IY+d),n", of("LD", idx(api.IY, -3), imm(-7))},
		{"LD (IX+d),(IY+d)", of("LD", idx(api.IX, -128), idx(api.IY, 127))}, {"LD n,n,n", of("LD", imm(0), imm(65535), imm(-32768))}, {"RES n,(IX+d),B", of("RES", imm(1), idx(api.IX, 2), r8(api.B))},
		{"LD (n),HL", of("LD", mem(500), r16(api.HL))}, {"IN A,(n)", of("IN", r8(api.A), mem(0))}, {"DJNZ e", of("DJNZ", rel(-2))}, {"JR NC,e", of("JR", api.Operand{Kind: api.Cond, Reg: api.NC}, rel(0))},
		{"EX AF,AF'", of("EX", r16(api.AF), r16(api.AF2))}, {"EX (SP),IY", of("EX", api.Operand{Kind: api.Ind, Reg: api.SP}, r16(api.IY))}, {"JP (IX)", of("JP", api.Operand{Kind: api.Ind, Reg: api.IX})},
		{"OUT (C),n", of("OUT", api.Operand{Kind: api.Ind, Reg: api.IndC}, imm(0))}, {"LD IXH,IYL", of("LD", api.Operand{Kind: api.RX, Reg: api.IXH}, api.Operand{Kind: api.RX, Reg: api.IYL})},
		{"LD I,A", of("LD", api.Operand{Kind: api.Ctl, Reg: api.RegI}, r8(api.A))}, {"LD A,R", of("LD", r8(api.A), api.Operand{Kind: api.Ctl, Reg: api.RegR})},
		{"RET C", of("RET", r8(api.C))}, {"RET C", of("RET", api.Operand{Kind: api.Cond, Reg: api.CY})}, {"HALT B,C,D", of("HALT", r8(api.B), r8(api.C), r8(api.D))},
		{"", of("ret", r8(api.C))}, {"", of("FOO")}, {"", of("")}, {"", of("LD", r8(6))}, {"", of("LD", r8(api.A), imm(65536))}, {"", of("LD", api.Operand{}, r8(api.A))},
		{"", of("LD", imm(1), imm(1), imm(1), imm(1))}, {"", of("LD", idx(api.IX, 128))}, {"", of("LD", idx(api.HL, 1))}, {"", api.Instr{}},
	} {
		if got := instr.Shape(c.i); got != c.want {
			t.Errorf("Shape(%v) = %q; want %q", c.i, got, c.want)
		}
	}
	for o, mark := range marks {
		if got := instr.Shape(of("POP", o)); got != "POP "+mark {
			t.Errorf("the mark of %v is in %q; want %q", o, got, mark)
		}
	}
}

// P7.3: no, one and several numbers, also of instructions that are not right,
// and the N of kinds that have none.
func TestNumbers(t *testing.T) {
	for _, c := range []struct {
		i    api.Instr
		want []int
	}{
		{of("NOP"), nil}, {of("LD", r8(api.A), r16(api.HL)), nil}, {of("JP", imm(500)), []int{500}}, {of("JR", rel(-2)), []int{-2}}, {of("IN", r8(api.A), mem(7)), []int{7}}, {of("INC", idx(api.IY, -1)), []int{-1}},
		{of("LD", idx(api.IX, 5), imm(7)), []int{5, 7}}, {of("LD", imm(7), idx(api.IX, 5)), []int{7, 5}}, {of("LD", imm(3), r8(api.A), rel(1)), []int{3, 1}}, {of("LD", r8(api.A), mem(3), r8(api.A)), []int{3}},
		{of("LD", imm(3), mem(2), rel(1)), []int{3, 2, 1}}, {of("LD", imm(0), imm(0), imm(0)), []int{0, 0, 0}},
		{of("foo", imm(1), r8(api.A), imm(2)), []int{1, 2}}, {of("", imm(1)), []int{1}}, {of("LD", imm(1<<20), idx(0, -500)), []int{1 << 20, -500}}, {of("LD", imm(1), mem(2), rel(3), idx(0, 4), imm(5)), []int{1, 2, 3, 4, 5}},
		{of("LD", imm(math.MaxInt), imm(math.MinInt)), []int{math.MaxInt, math.MinInt}}, {of("LD", api.Operand{Kind: api.Imm, Reg: 9, N: 4}), []int{4}}, {api.Instr{}, nil},
	} {
		if got := instr.Numbers(c.i); !slices.Equal(got, c.want) {
			t.Errorf("Numbers(%v) = %v; want %v", c.i, got, c.want)
		}
	}
	for kind := -2; kind <= 13; kind++ {
		want := []int{77}
		if !slices.Contains([]int{api.Idx, api.Imm, api.Mem, api.Rel}, kind) {
			want = nil
		}
		if got := instr.Numbers(of("LD", api.Operand{Kind: kind, N: 77})); !slices.Equal(got, want) {
			t.Errorf("the numbers of the kind %d are %v; want %v", kind, got, want)
		}
	}
}

// P7.3: instructions that are the same, and others that differ in one part.
func TestSame(t *testing.T) {
	cond := api.Operand{Kind: api.Cond, Reg: api.CY}
	l := []api.Instr{
		{}, of("LD"), of("ld"), of("LDI"), of("L"), of("LD "), of("", imm(1)), of("LD", imm(1)), of("LD", imm(2)), of("LD", imm(-1)), of("LD", imm(1), imm(1)), of("LD", imm(1), imm(2)), of("LD", imm(2), imm(1)),
		of("LD", imm(1), imm(1), imm(1)), of("LD", imm(1), imm(1), imm(1), imm(1)), of("LD", imm(1), imm(1), imm(1), imm(2)), of("LD", mem(1)), of("LD", rel(1)), of("LD", idx(api.IX, 1)), of("LD", idx(api.IY, 1)), of("LD", idx(api.IX, 2)),
		of("RET", r8(api.C)), of("RET", cond), of("LD", api.Operand{}), of("LD", api.Operand{Kind: 6, Reg: 1, N: 1}), of("LD", imm(65536)), of("LD", imm(65535)), of("LD", imm(1+1<<32)),
	}
	for k, a := range l {
		for m, b := range l {
			if got := instr.Same(a, copyOf(b)); got != (k == m) {
				t.Errorf("Same(%v, %v) = %v", a, b, got)
			}
		}
	}
	if !instr.Same(of("A", []api.Operand{}...), api.Instr{Op: "A"}) || !instr.Same(api.Instr{Op: "A"}, api.Instr{Op: "A", Args: []api.Operand{}}) {
		t.Error("nil operands and empty ones are not the same")
	}
	spare := []api.Operand{imm(1), imm(2), imm(3)}
	if !instr.Same(of("LD", spare[:2]...), of("LD", imm(1), imm(2))) || instr.Same(of("LD", spare[:2]...), of("LD", spare...)) {
		t.Error("Same reads beyond the length of a slice")
	}
}

// wantWith compares With with a model, and sees that it leaves its arguments
// as they were and returns new memory.
func wantWith(t *testing.T, i api.Instr, numbers ...int) {
	t.Helper()
	want := copyOf(i)
	given := slices.Clone(numbers)
	for k, o := range want.Args {
		if slices.Contains([]int{5, 6, 7, 10}, o.Kind) && len(given) > 0 {
			want.Args[k].N = given[0]
			given = given[1:]
		}
	}
	isRight := len(numbers) == len(numbersOf(i)) && checkOf(want) == api.OK
	if !isRight {
		want = api.Instr{}
	}
	before, given := copyOf(i), slices.Clone(numbers)
	got, ok := instr.With(i, numbers...)
	if ok != isRight || !isSame(got, want) {
		t.Errorf("With(%v, %v) = %v, %v; want %v, %v", before, given, got, ok, want, isRight)
	}
	for k := range got.Args {
		got.Args[k] = api.Operand{Kind: 99}
	}
	if !isSame(i, before) || !slices.Equal(numbers, given) {
		t.Errorf("With(%v, %v), or a change of its result, changed its arguments to %v and %v", before, given, i, numbers)
	}
}

// P7.4: as many numbers, fewer and more.
func TestWith(t *testing.T) {
	i := of("LD", idx(api.IX, 1), imm(2))
	if got, ok := instr.With(i, 5, -6); !ok || !isSame(got, of("LD", idx(api.IX, 5), imm(-6))) {
		t.Errorf("With(%v, 5, -6) = %v, %v", i, got, ok)
	}
	if !isSame(i, of("LD", idx(api.IX, 1), imm(2))) {
		t.Errorf("With changed its argument to %v", i)
	}
	for _, i := range []api.Instr{
		of("NOP"), of("NOP", []api.Operand{}...), of("LD", r8(api.A), r16(api.HL)), of("JP", imm(1)), of("LD", r8(api.A), mem(3)), of("LD", mem(3), r8(api.A)), of("LD", idx(api.IX, 1), imm(2)), of("LD", imm(1), r8(api.B), rel(2)),
		of("RES", imm(1), idx(api.IY, 2), r8(api.B)), of("SET", imm(1), mem(2), rel(3)), of("nop"), of("foo", imm(1)), of("ld", imm(1), imm(2)), of("LD", imm(1), imm(2), imm(3), imm(4)), of("LD", r8(6)), of("LD", r8(6), imm(1)), {},
		of("LD", r8(api.A), r8(api.A), r8(api.A), r8(api.A)), of("LD", imm(1<<20)), of("LD", imm(-1<<20), mem(-1)), of("LD", idx(api.HL, 1)), of("LD", api.Operand{Kind: api.Imm, Reg: 1, N: 1}), of("LD", api.Operand{Kind: api.R8, N: 1}), of("LD", api.Operand{Kind: api.R8, N: 1}, imm(4)),
	} {
		for _, l := range [][]int{nil, {}, {0}, {5}, {-1}, {1, 2}, {1, 2, 3}, {3, 2, 1}, {1, 2, 3, 4}, {1, 2, 3, 4, 5}, make([]int, 1000)} {
			wantWith(t, i, l...)
		}
	}
}

// P7.4: numbers at and beside the ends of what an operand may have, in each
// place.
func TestWithNumbersAtTheEnds(t *testing.T) {
	ends := []int{
		-32769, -32768, -32767, -129, -128, -127, -1, 0, 1, 126, 127, 128, 129, 255, 256, 65534, 65535, 65536, 65537,
		math.MaxInt32, math.MinInt32, math.MaxInt, math.MinInt, 1 << 32, 1<<32 + 1, -1 << 32,
	}
	for _, r := range ranges {
		o := api.Operand{Kind: r.kind, Reg: r.reg, N: 3}
		for _, n := range ends {
			i := of("ADD", o)
			if _, ok := instr.With(i, n); ok != (r.lo <= n && n <= r.hi) {
				t.Errorf("With(%v, %d) returns %v", i, n, ok)
			}
			wantWith(t, i, n)
			wantWith(t, of("ADD", r8(api.A), o, imm(9)), n, 10)
			wantWith(t, of("ADD", imm(9), o, rel(8)), 11, n, 12)
			for _, m := range ends {
				wantWith(t, of("ADD", o, r16(api.SP), o), n, m)
			}
		}
		for _, n := range numbersAround(r.lo, r.hi) {
			wantWith(t, of("ADC", o), n)
		}
		stopIfFailed(t)
	}
}

// P7.4: only the result has to be right, not the instruction it is made of.
func TestWithOfNumbersThatAreNotRight(t *testing.T) {
	for _, c := range []struct {
		i    api.Instr
		l    []int
		want api.Instr
	}{
		{of("LD", imm(65536)), []int{1}, of("LD", imm(1))}, {of("LD", mem(-1), r8(api.A)), []int{65535}, of("LD", mem(65535), r8(api.A))},
		{of("LD", idx(api.IX, 128), imm(math.MinInt)), []int{-128, -32768}, of("LD", idx(api.IX, -128), imm(-32768))}, {of("JR", rel(-129)), []int{127}, of("JR", rel(127))},
	} {
		if got, ok := instr.With(c.i, c.l...); !ok || !isSame(got, c.want) {
			t.Errorf("With(%v, %v) = %v, %v; want %v", c.i, c.l, got, ok, c.want)
		}
	}
}

// P7.3, P7.4: an instruction with its own numbers is the same, and a result
// has the numbers that it was given.
func TestWithInvertsNumbers(t *testing.T) {
	for _, a := range operands() {
		for _, b := range operands() {
			i := of("LD", a, r8(api.E), b)
			got, ok := instr.With(i, instr.Numbers(i)...)
			if !ok || !instr.Same(got, i) {
				t.Fatalf("With(%v) and its own numbers = %v, %v", i, got, ok)
			}
			l := make([]int, len(instr.Numbers(i)))
			for k := range l {
				l[k] = 100 + k
			}
			got, ok = instr.With(i, l...)
			if !ok || !slices.Equal(instr.Numbers(got), l) || instr.Shape(got) != instr.Shape(i) {
				t.Fatalf("With(%v, %v) = %v, %v", i, l, got, ok)
			}
		}
	}
}

// P7.5: the shape, the numbers and the kinds together say which instruction it
// is.
func TestPartsSayWhichInstruction(t *testing.T) {
	seen := map[string]api.Instr{}
	visit := func(i api.Instr) {
		key := instr.Shape(i) + ";"
		for _, n := range instr.Numbers(i) {
			key += strconv.Itoa(n) + ","
		}
		for _, o := range i.Args {
			key += fmt.Sprint(";", o.Kind)
		}
		if instr.Check(i) != api.OK {
			t.Errorf("Check(%v) = %d", i, instr.Check(i))
		}
		if other, ok := seen[key]; ok && !instr.Same(i, other) {
			t.Errorf("%v and %v have the parts %q", other, i, key)
		}
		seen[key] = i
	}
	all := operands()
	different := map[api.Operand]bool{}
	for _, o := range all {
		different[o] = true
	}
	for _, op := range mnemonics {
		visit(of(op))
		for a := range different {
			visit(of(op, a))
		}
	}
	for a := range different {
		for b := range different {
			visit(of("LD", a, b))
			visit(of("RES", a, r8(api.C), b))
		}
	}
	n := len(different)
	if want := len(mnemonics)*(n+1) + 2*n*n; len(seen) != want {
		t.Errorf("%d instructions are different; want %d", len(seen), want)
	}
}

// P7.5: the register C and the condition C have the same form, but are not
// the same.
func TestRetC(t *testing.T) {
	register, condition := instr.Make("ret", r8(api.C)), instr.Make("ret", api.Operand{Kind: api.Cond, Reg: api.CY})
	if instr.Shape(register) != "RET C" || instr.Shape(condition) != "RET C" {
		t.Errorf("the shapes are %q and %q", instr.Shape(register), instr.Shape(condition))
	}
	if instr.Check(register) != api.OK || instr.Check(condition) != api.OK || instr.Same(register, condition) || instr.Same(condition, register) {
		t.Error("RET with the register C and with the condition C are the same, or not right")
	}
}

// Rule 6: the functions may be called concurrently.
func TestConcurrentCalls(t *testing.T) {
	shared := of("RES", imm(1), idx(api.IX, 2), r8(api.B))
	var group sync.WaitGroup
	for g := range 8 {
		group.Add(1)
		go func() {
			defer group.Done()
			for n := range 200 {
				wantParts(t, shared)
				wantParts(t, instr.Make("bit", imm(n*g)))
				if got, ok := instr.With(shared, n, g); !ok || got.Args[0].N != n || got.Args[1].N != g {
					t.Errorf("With(%v, %d, %d) = %v, %v", shared, n, g, got, ok)
				}
				if l := instr.Ops(); len(l) != 68 {
					t.Errorf("Ops has %d mnemonics", len(l))
				}
			}
		}()
	}
	group.Wait()
}
