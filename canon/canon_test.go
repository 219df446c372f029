package canon_test

import (
	"math"
	"slices"
	"strings"
	"sync"
	"testing"

	"breadboard/api"
	"breadboard/canon"
)

// mnemonics has all mnemonics.
var mnemonics = strings.Fields(`
	ADC ADD AND BIT CALL CCF CP CPD CPDR CPI CPIR CPL DAA DEC DI DJNZ EI EX EXX HALT IM IN INC IND INDR INI INIR
	JP JR LD LDD LDDR LDI LDIR NEG NOP OR OTDR OTIR OUT OUTD OUTI POP PUSH RES RET RETI RETN
	RL RLA RLC RLCA RLD RR RRA RRC RRCA RRD RST SBC SCF SET SLA SLL SRA SRL SUB XOR`)

// otherWords are no mnemonics, so that no step changes anything but numbers.
var otherWords = []string{
	"", " ", "x", "sub", "Sub", "add", "adc", "sbc", "and", "xor", "or", "cp", "ex", "Ex", "eX", "ld", "Ld", "jp", "call", "bit", "res", "set", "im", "rst", "out",
	"SUB ", " SUB", "ADD ", "EX ", "LD ", "JP ", "CALL ", "BIT ", "SUBA", "ADDA", "SU", "AD", "E", "L", "J", "CAL", "BI", "RS", "DEFB", "DEFW", "ORG", "FOO", "\xff",
}

// The groups of mnemonics that step 1 and the width name.
var (
	leaveOut = []string{"SUB", "AND", "XOR", "OR", "CP"}
	putInto  = []string{"ADD", "ADC", "SBC"}
	noWidth  = []string{"BIT", "RES", "SET", "IM", "RST", "OUT"}
)

func opnd(kind, reg, n int) api.Operand { return api.Operand{Kind: kind, Reg: reg, N: n} }
func imm(n int) api.Operand             { return opnd(6, 0, n) }

var (
	regA, regB             = opnd(1, 7, 0), opnd(1, 0, 0)
	bc, de, hl, sp, ix, iy = opnd(3, 0, 0), opnd(3, 1, 0), opnd(3, 2, 0), opnd(3, 3, 0), opnd(3, 5, 0), opnd(3, 6, 0)
)

// samples has operands of all kinds, and some that are not valid, among them
// ones that are the register A, DE or HL but for one field.
var samples = []api.Operand{
	regA, regB, opnd(1, 1, 0), opnd(1, 6, 0), opnd(2, 0, 0), opnd(2, 3, 0), bc, de, hl, sp, opnd(3, 4, 0), ix, iy, opnd(3, 7, 0),
	opnd(4, 0, 0), opnd(4, 1, 0), opnd(4, 2, 0), opnd(4, 3, 0), opnd(4, 8, 0), opnd(5, 5, -5), opnd(5, 6, 127), opnd(5, 5, -128), imm(0), imm(7), imm(-1), imm(-128), imm(-129), imm(255), imm(-32768), imm(-32769), imm(65535),
	opnd(7, 0, 0), opnd(7, 0, 7), opnd(7, 0, 65535), opnd(8, 0, 0), opnd(8, 1, 0), opnd(8, 2, 0), opnd(8, 7, 0), opnd(9, 0, 0), opnd(9, 1, 0), opnd(10, 0, -5), opnd(10, 0, 5),
	{}, opnd(0, 7, 0), opnd(2, 7, 0), opnd(4, 7, 0), opnd(1, 7, 1), opnd(1, 7, -1), opnd(1, -1, 0), opnd(1, 8, 0), opnd(3, 2, 1), opnd(3, 1, 1), opnd(3, 1, -1), opnd(3, 8, 0), opnd(6, 1, -1), opnd(6, 7, 0), opnd(7, 0, -1), opnd(5, 5, -129), opnd(10, 0, -200), opnd(11, 0, -1), opnd(-1, 0, -1),
	imm(math.MinInt), imm(math.MaxInt), opnd(1, 0, -1), opnd(3, 0, -1), opnd(4, 2, -1), opnd(8, 3, -1), opnd(9, 0, -1),
}

// of returns an instruction.
func of(op string, args ...api.Operand) api.Instr { return api.Instr{Op: op, Args: args} }

// isSame compares instructions without the packages of the program.
func isSame(a, b api.Instr) bool {
	if a.Op != b.Op || len(a.Args) != len(b.Args) {
		return false
	}
	for k := range a.Args {
		if a.Args[k] != b.Args[k] {
			return false
		}
	}
	return true
}

// copyOf returns an instruction that shares no memory with another.
func copyOf(i api.Instr) api.Instr {
	c := api.Instr{Op: i.Op}
	for _, o := range i.Args {
		c.Args = append(c.Args, o)
	}
	return c
}

// widthOf is a model of Width.
func widthOf(i api.Instr) int {
	isLong := i.Op == "JP" || i.Op == "CALL" || i.Op == "LD" && len(i.Args) >= 1 && i.Args[0].Kind == 3
	switch {
	case slices.Contains(noWidth, i.Op):
		return 0
	case isLong:
		return 2
	}
	return 1
}

// formOf is a model of Of.
func formOf(i api.Instr) api.Instr {
	want := api.Instr{Op: i.Op}
	if slices.Contains(putInto, i.Op) && len(i.Args) == 1 {
		want.Args = append(want.Args, regA)
	}
	for k, o := range i.Args {
		if slices.Contains(leaveOut, i.Op) && len(i.Args) == 2 && k == 0 && o == regA {
			continue
		}
		want.Args = append(want.Args, o)
	}
	if i.Op == "EX" && len(i.Args) == 2 && i.Args[0] == hl && i.Args[1] == de {
		want.Args = []api.Operand{de, hl}
	}
	for k, o := range want.Args {
		switch {
		case o.Kind != 6 || o.N >= 0:
		case widthOf(i) == 1 && o.N >= -128:
			want.Args[k].N = 256 + o.N
		case widthOf(i) == 2 && o.N >= -32768:
			want.Args[k].N = 65536 + o.N
		}
	}
	return want
}

// stopIfFailed ends a test of very many inputs at the first that fails, so
// that its report stays short.
func stopIfFailed(t *testing.T) {
	t.Helper()
	if t.Failed() {
		t.FailNow()
	}
}

// wantOf sees that an instruction has the given canonical form, for all
// functions, and that it stays as it was. It sees also that the canonical form
// is its own and has the same width (P8.3).
func wantOf(t *testing.T, i, want api.Instr) {
	t.Helper()
	before := copyOf(i)
	got := canon.Of(i)
	if !isSame(got, want) {
		t.Errorf("Of(%v) = %v; want %v", before, got, want)
	}
	if isForm := isSame(before, want); canon.Is(i) != isForm {
		t.Errorf("Is(%v) = %v", before, !isForm)
	}
	if !canon.Equal(i, want) || !canon.Equal(want, i) || !canon.Equal(i, i) {
		t.Errorf("%v and %v are not equal", before, want)
	}
	if again := canon.Of(got); !isSame(again, got) || !canon.Is(got) {
		t.Errorf("Of(%v) = %v, whose canonical form is %v", before, got, again)
	}
	if canon.Width(got) != canon.Width(before) {
		t.Errorf("the width of %v is %d, and that of %v is %d", before, canon.Width(before), got, canon.Width(got))
	}
	if !isSame(i, before) {
		t.Errorf("%v was changed to %v", before, i)
	}
}

// wantModel compares all functions with the models.
func wantModel(t *testing.T, i api.Instr) {
	t.Helper()
	if got := canon.Width(i); got != widthOf(i) {
		t.Errorf("Width(%v) = %d; want %d", i, got, widthOf(i))
	}
	wantOf(t, i, formOf(i))
}

// P8.1: each mnemonic without operands, and words that are none.
func TestWidth(t *testing.T) {
	if len(mnemonics) != 68 {
		t.Fatalf("the test has %d mnemonics", len(mnemonics))
	}
	widths := map[string]int{"BIT": 0, "RES": 0, "SET": 0, "IM": 0, "RST": 0, "OUT": 0, "JP": 2, "CALL": 2}
	for _, op := range slices.Concat(mnemonics, otherWords) {
		want, ok := widths[op]
		if !ok {
			want = 1
		}
		if got := canon.Width(of(op)); got != want {
			t.Errorf("Width(%q) = %d; want %d", op, got, want)
		}
		if got := canon.Width(of(op, []api.Operand{}...)); got != want {
			t.Errorf("Width(%q) with empty operands = %d; want %d", op, got, want)
		}
	}
}

// P8.1: LD with a first operand of each kind, whatever its fields are, and
// with others behind it.
func TestWidthOfLoads(t *testing.T) {
	for kind := -2; kind <= 13; kind++ {
		want := 1
		if kind == 3 {
			want = 2
		}
		for reg := -1; reg <= 9; reg++ {
			for _, n := range []int{math.MinInt, -1, 0, 1, math.MaxInt} {
				o := opnd(kind, reg, n)
				for _, i := range []api.Instr{of("LD", o), of("LD", o, hl), of("LD", o, imm(-1)), of("LD", o, regA), of("LD", o, o, o), of("LD", o, hl, hl, hl)} {
					if got := canon.Width(i); got != want {
						t.Errorf("Width(%v) = %d; want %d", i, got, want)
					}
				}
				for _, op := range []string{"LDD", "LDI", "LDIR", "ld", "ADD", "INC", "PUSH", "EX", "IN"} {
					if got := canon.Width(of(op, o)); got != 1 {
						t.Errorf("Width of %s with %v = %d", op, o, got)
					}
				}
			}
		}
		stopIfFailed(t)
	}
	for _, i := range []api.Instr{of("LD"), of("LD", regA, hl), of("LD", opnd(4, 2, 0), hl), of("LD", opnd(7, 0, 5), hl), of("LD", imm(1), hl), of("LD", opnd(2, 3, 0), imm(1))} {
		if got := canon.Width(i); got != 1 {
			t.Errorf("Width(%v) = %d; want 1", i, got)
		}
	}
}

// P8.1: the operands of all other mnemonics make no difference.
func TestWidthWithOperands(t *testing.T) {
	for _, op := range slices.Concat(mnemonics, otherWords) {
		for _, o := range samples {
			for _, i := range []api.Instr{of(op, o), of(op, hl, o), of(op, o, o, o), of(op, o, hl, o, hl)} {
				if got := canon.Width(i); got != widthOf(i) {
					t.Errorf("Width(%v) = %d; want %d", i, got, widthOf(i))
				}
			}
		}
		stopIfFailed(t)
	}
}

// P8.2, step 1: the register A in front of another operand is left out.
func TestAccumulatorIsLeftOut(t *testing.T) {
	noA := []api.Operand{regB, {}, opnd(0, 7, 0), opnd(2, 7, 0), opnd(3, 7, 0), opnd(4, 7, 0), opnd(8, 7, 0), opnd(1, 6, 0), opnd(1, 8, 0), opnd(1, 7, 1), opnd(1, 7, -1), imm(7), opnd(7, 0, 7), hl, ix}
	for _, op := range leaveOut {
		wantOf(t, of(op), of(op))
		wantOf(t, of(op, regA), of(op, regA))
		wantOf(t, of(op, regB), of(op, regB))
		wantOf(t, of(op, regA, regA), of(op, regA))
		wantOf(t, of(op, regA, regB), of(op, regB))
		wantOf(t, of(op, regA, imm(5)), of(op, imm(5)))
		wantOf(t, of(op, regA, opnd(5, 5, -3)), of(op, opnd(5, 5, -3)))
		wantOf(t, of(op, regA, api.Operand{}), of(op, api.Operand{}))
		for _, o := range noA {
			wantOf(t, of(op, o), of(op, o))
			wantOf(t, of(op, o, regA), of(op, o, regA))
			wantOf(t, of(op, o, o), of(op, o, o))
			wantOf(t, of(op, regA, o), of(op, o))
		}
		for n := 3; n <= 6; n++ {
			l := slices.Repeat([]api.Operand{regA}, n)
			wantOf(t, of(op, l...), of(op, l...))
		}
		wantOf(t, of(op, regA, regB, regB), of(op, regA, regB, regB))
	}
}

// P8.2, step 1: the register A is put in front of a single operand.
func TestAccumulatorIsPutInFront(t *testing.T) {
	for _, op := range putInto {
		wantOf(t, of(op), of(op))
		wantOf(t, of(op, []api.Operand{}...), of(op))
		for _, o := range []api.Operand{regA, regB, imm(5), hl, ix, opnd(4, 2, 0), opnd(5, 6, -3), opnd(1, 7, 1), {}, opnd(-9, 1, 2)} {
			wantOf(t, of(op, o), of(op, regA, o))
			wantOf(t, of(op, regA, o), of(op, regA, o))
			wantOf(t, of(op, o, regA), of(op, o, regA))
			wantOf(t, of(op, o, o), of(op, o, o))
			wantOf(t, of(op, hl, o), of(op, hl, o))
			wantOf(t, of(op, o, o, o), of(op, o, o, o))
			wantOf(t, of(op, regA, o, o), of(op, regA, o, o))
			wantOf(t, of(op, regA, o, o, o), of(op, regA, o, o, o))
		}
	}
}

// P8.2, step 1: no other mnemonic gets the register A, or loses it.
func TestAccumulatorElsewhere(t *testing.T) {
	for _, op := range slices.Concat(mnemonics, otherWords) {
		if slices.Contains(leaveOut, op) || slices.Contains(putInto, op) {
			continue
		}
		for _, i := range []api.Instr{of(op), of(op, regA), of(op, regB), of(op, regA, regA), of(op, regA, regB), of(op, regB, regA), of(op, regA, regA, regB), of(op, regA, imm(1)), of(op, imm(1))} {
			wantOf(t, i, copyOf(i))
		}
	}
}

// P8.2, step 2: HL and DE are put in order, in EX only and if there are no
// other operands.
func TestExchangeIsPutInOrder(t *testing.T) {
	wantOf(t, of("EX", hl, de), of("EX", de, hl))
	for _, l := range [][]api.Operand{
		nil, {hl}, {de}, {de, hl}, {hl, hl}, {de, de}, {hl, bc}, {bc, de}, {sp, de}, {hl, sp}, {ix, de}, {iy, de}, {hl, ix}, {hl, opnd(1, 1, 0)}, {opnd(4, 2, 0), de}, {hl, opnd(4, 1, 0)}, {opnd(4, 3, 0), hl}, {opnd(3, 4, 0), opnd(3, 7, 0)},
		{hl, de, hl}, {hl, de, de}, {hl, hl, de}, {de, hl, de}, {bc, hl, de}, {hl, de, bc}, {hl, de, hl, de}, {opnd(3, 2, 1), de}, {hl, opnd(3, 1, 1)}, {opnd(3, 2, -1), opnd(3, 1, -1)}, {opnd(8, 2, 0), opnd(8, 1, 0)}, {opnd(1, 2, 0), opnd(1, 1, 0)},
	} {
		wantOf(t, of("EX", l...), of("EX", slices.Clone(l)...))
	}
	for _, op := range slices.Concat(mnemonics, otherWords) {
		if op != "EX" {
			wantOf(t, of(op, hl, de), of(op, hl, de))
		}
	}
}

// beside returns numbers at and beside the ends of all ranges, and far from
// them.
func beside() []int {
	l := []int{math.MinInt, math.MinInt + 1, math.MinInt32, math.MaxInt32, math.MaxInt - 1, math.MaxInt, -1 << 32, 1<<32 - 1, 1 << 32, -1<<32 - 1, 1<<32 - 256}
	for _, end := range []int{-65536, -32768, -256, -128, 0, 127, 128, 255, 256, 32767, 32768, 65535, 65536} {
		for d := -2; d <= 2; d++ {
			l = append(l, end+d)
		}
	}
	return l
}

// P8.2, step 3: numbers of each width, in all places.
func TestNegativeNumbers(t *testing.T) {
	for _, c := range []struct {
		i     api.Instr
		least int
		add   int
	}{
		{of("LD", regB), -128, 256}, {of("LD", opnd(4, 2, 0)), -128, 256}, {of("LD", opnd(5, 5, -5)), -128, 256}, {of("LD", opnd(2, 0, 0)), -128, 256}, {of("LD", opnd(7, 0, 1)), -128, 256}, {of("ADD", regA), -128, 256}, {of("ADD", hl), -128, 256}, {of("CP"), -128, 256}, {of("SUB", regB), -128, 256},
		{of("IN", regA), -128, 256}, {of("JR"), -128, 256}, {of("DJNZ"), -128, 256}, {of("NOP"), -128, 256}, {of("EX", hl), -128, 256}, {of("PUSH"), -128, 256}, {of("ld", hl), -128, 256}, {of("jp"), -128, 256}, {of("bit"), -128, 256}, {of(""), -128, 256},
		{of("LD", hl), -32768, 65536}, {of("LD", ix), -32768, 65536}, {of("LD", opnd(3, 7, 0)), -32768, 65536}, {of("LD", opnd(3, 99, 1)), -32768, 65536}, {of("JP"), -32768, 65536}, {of("JP", opnd(8, 3, 0)), -32768, 65536}, {of("JP", regA), -32768, 65536}, {of("CALL"), -32768, 65536}, {of("CALL", opnd(8, 7, 0)), -32768, 65536},
		{of("BIT"), 0, 0}, {of("RES"), 0, 0}, {of("SET", regA), 0, 0}, {of("IM"), 0, 0}, {of("RST"), 0, 0}, {of("OUT", opnd(4, 8, 0)), 0, 0}, {of("OUT", hl), 0, 0},
	} {
		for _, n := range beside() {
			want := n
			if c.least <= n && n < 0 {
				want = n + c.add
			}
			with := func(number int) api.Instr { return of(c.i.Op, append(slices.Clone(c.i.Args), imm(number))...) }
			wantOf(t, with(n), formOf(with(want)))
			if got := canon.Of(with(n)); len(got.Args) == 0 || got.Args[len(got.Args)-1] != imm(want) {
				t.Errorf("Of(%v) = %v; want the number %d", with(n), got, want)
			}
		}
	}
}

// P8.2, step 3: all numbers that an operand may have, and many others.
func TestAllNumbers(t *testing.T) {
	for n := -70000; n <= 70000; n++ {
		one, two := n, n
		if -128 <= n && n <= -1 {
			one = n + 256
		}
		if -32768 <= n && n <= -1 {
			two = n + 65536
		}
		for _, c := range []struct{ i, want api.Instr }{
			{of("LD", regA, imm(n)), of("LD", regA, imm(one))}, {of("LD", de, imm(n)), of("LD", de, imm(two))}, {of("JP", imm(n)), of("JP", imm(two))}, {of("BIT", imm(n), regA), of("BIT", imm(n), regA)},
		} {
			if got := canon.Of(c.i); !isSame(got, c.want) || canon.Is(c.i) != isSame(c.i, c.want) {
				t.Fatalf("Of(%v) = %v; want %v", c.i, got, c.want)
			}
		}
	}
}

// P8.2, step 3: each operand Imm, whatever its register is, but no operand of
// another kind.
func TestNegativeNumbersOfOtherKinds(t *testing.T) {
	for _, op := range []string{"NOP", "LD", "JP", "CALL", "OR", "SBC", "EX", "OUT", "foo"} {
		for kind := -1; kind <= 12; kind++ {
			if kind == 6 {
				continue
			}
			for _, reg := range []int{-1, 0, 1, 2, 5, 6, 8} {
				for _, n := range []int{-1, -5, -128, -129, -32768, -32769} {
					o := opnd(kind, reg, n)
					if got := canon.Of(of(op, regB, o)); !isSame(got, of(op, regB, o)) {
						t.Errorf("Of(%s) with %v = %v", op, o, got)
					}
				}
			}
		}
	}
	wantOf(t, of("NOP", imm(-1), imm(-2), imm(-129), imm(3)), of("NOP", imm(255), imm(254), imm(-129), imm(3)))
	wantOf(t, of("JP", imm(-1), imm(-32769), imm(-32768)), of("JP", imm(65535), imm(-32769), imm(32768)))
	wantOf(t, of("RST", imm(-1), imm(-128), imm(5)), of("RST", imm(-1), imm(-128), imm(5)))
	wantOf(t, of("LD", imm(-1), hl), of("LD", imm(255), hl))
	wantOf(t, of("LD", hl, imm(-1), imm(-2)), of("LD", hl, imm(65535), imm(65534)))
	wantOf(t, of("CP", opnd(6, 9, -1)), of("CP", opnd(6, 9, 255)))
	wantOf(t, of("LD", opnd(5, 5, -5), imm(-5)), of("LD", opnd(5, 5, -5), imm(251)))
}

// P8.2: the first step and the third one together; the second and the third
// one never change the same instruction.
func TestStepsTogether(t *testing.T) {
	for _, op := range leaveOut {
		wantOf(t, of(op, regA, imm(-1)), of(op, imm(255)))
		wantOf(t, of(op, regA, imm(-128)), of(op, imm(128)))
		wantOf(t, of(op, regA, imm(-129)), of(op, imm(-129)))
		wantOf(t, of(op, imm(-1), regA), of(op, imm(255), regA))
		wantOf(t, of(op, regA, regA, imm(-1)), of(op, regA, regA, imm(255)))
	}
	for _, op := range putInto {
		wantOf(t, of(op, imm(-1)), of(op, regA, imm(255)))
		wantOf(t, of(op, imm(-128)), of(op, regA, imm(128)))
		wantOf(t, of(op, imm(-129)), of(op, regA, imm(-129)))
		wantOf(t, of(op, imm(-1), imm(-2)), of(op, imm(255), imm(254)))
	}
	wantOf(t, of("EX", hl, de, imm(-1)), of("EX", hl, de, imm(255)))
	wantOf(t, of("EX", hl, imm(-1)), of("EX", hl, imm(255)))
	wantOf(t, of("SUB", hl, de), of("SUB", hl, de))
	wantOf(t, of("SUB", regA, de), of("SUB", de))
}

// P8.1, P8.2, P8.3: all mnemonics and other words with up to three operands of
// all kinds, right or not.
func TestAllInstructions(t *testing.T) {
	for _, op := range slices.Concat(mnemonics, otherWords) {
		wantModel(t, of(op))
		for _, a := range samples {
			wantModel(t, of(op, a))
			for _, b := range samples {
				wantModel(t, of(op, a, b))
			}
		}
		stopIfFailed(t)
	}
	for _, op := range []string{"SUB", "ADD", "EX", "LD", "JP", "RES", "NOP", "ex"} {
		for _, a := range samples {
			for _, b := range samples {
				for _, c := range []api.Operand{regA, hl, de, imm(-1), imm(-129), {}} {
					wantModel(t, of(op, a, b, c))
					wantModel(t, of(op, a, b, c, b))
				}
			}
			stopIfFailed(t)
		}
	}
}

// P8.2: very many operands, and words that are very long.
func TestLargeInstructions(t *testing.T) {
	const many = 100000
	got := canon.Of(of("SUB", slices.Repeat([]api.Operand{regA, imm(-1)}, many)...))
	if !isSame(got, of("SUB", slices.Repeat([]api.Operand{regA, imm(255)}, many)...)) {
		t.Error("not all operands are as they should be")
	}
	long := strings.Repeat("SUB", many)
	wantOf(t, of(long, regA, imm(-1)), of(long, regA, imm(255)))
}

// P8.2: All of no, one and several instructions.
func TestAll(t *testing.T) {
	if got := canon.All(); len(got) != 0 {
		t.Errorf("All() = %v", got)
	}
	if got := canon.All([]api.Instr{}...); len(got) != 0 {
		t.Errorf("All of an empty slice = %v", got)
	}
	l := []api.Instr{of("SUB", regA, imm(-1)), of("EX", hl, de), {}, of("ADD", regB), of("ADD", regB), of("NOP"), of("sub", regA, regB), of("LD", hl, imm(-1)), of("EX", hl, de), of("RST", imm(-1))}
	want := []api.Instr{of("SUB", imm(255)), of("EX", de, hl), {}, of("ADD", regA, regB), of("ADD", regA, regB), of("NOP"), of("sub", regA, regB), of("LD", hl, imm(65535)), of("EX", de, hl), of("RST", imm(-1))}
	before := make([]api.Instr, len(l))
	for k, i := range l {
		before[k] = copyOf(i)
	}
	for from := range len(l) + 1 {
		for to := from; to <= len(l); to++ {
			if got := canon.All(l[from:to]...); !slices.EqualFunc(got, want[from:to], isSame) {
				t.Errorf("All(%v) = %v; want %v", l[from:to], got, want[from:to])
			}
		}
	}
	if !slices.EqualFunc(l, before, isSame) {
		t.Errorf("All changed its arguments to %v", l)
	}
}

// P8.2: Is of instructions with one difference from their canonical form, and
// of canonical forms.
func TestIs(t *testing.T) {
	for _, i := range []api.Instr{of("SUB", regA, regB), of("CP", regA, regA), of("ADD", regB), of("SBC", regA), of("EX", hl, de), of("LD", regB, imm(-1)), of("LD", hl, imm(-32768)), of("JP", imm(-1)), of("NOP", imm(-1))} {
		if canon.Is(i) {
			t.Errorf("Is(%v) = true", i)
		}
	}
	for _, i := range []api.Instr{{}, of("NOP"), of("SUB", regB), of("CP", regA), of("ADD", regA, regB), of("SBC", hl, de), of("EX", de, hl), of("EX", opnd(3, 4, 0), opnd(3, 7, 0)), of("LD", regB, imm(-129)), of("LD", hl, imm(-32769)), of("RST", imm(-1)), of("sub", regA, regB), of("FOO", regA, regB), of("LD", regB, imm(65536))} {
		if !canon.Is(i) {
			t.Errorf("Is(%v) = false", i)
		}
	}
}

// P8.2: Equal of each two of some instructions, which are in groups with the
// same canonical form.
func TestEqual(t *testing.T) {
	groups := [][]api.Instr{
		{of("SUB", regA, imm(-1)), of("SUB", imm(-1)), of("SUB", regA, imm(255)), of("SUB", imm(255))}, {of("SUB", regA, imm(-2)), of("SUB", imm(254))}, {of("AND", regA, imm(-1)), of("AND", imm(255))},
		{of("SUB", regA), of("SUB", regA, regA)}, {of("SUB", regA, regA, regA)}, {of("SUB")}, {of("SUB", regB), of("SUB", regA, regB)}, {of("SUB", regB, regA)}, {of("sub", regA, regB)}, {of("sub", regB)},
		{of("ADD", regB), of("ADD", regA, regB)}, {of("ADD")}, {of("ADD", regA, regA), of("ADD", regA)}, {of("ADD", regB, regB)}, {of("ADC", regB), of("ADC", regA, regB)}, {of("ADD", imm(-128)), of("ADD", imm(128)), of("ADD", regA, imm(-128)), of("ADD", regA, imm(128))}, {of("ADD", imm(-129))}, {of("ADD", imm(127))},
		{of("EX", hl, de), of("EX", de, hl)}, {of("EX", hl, hl)}, {of("EX", de, de)}, {of("EX", hl, de, hl)}, {of("EX", de, hl, hl)}, {of("ADD", hl, de)}, {of("ADD", de, hl)}, {of("EX")}, {of("ex", hl, de)}, {of("ex", de, hl)},
		{of("LD", hl, imm(-1)), of("LD", hl, imm(65535))}, {of("LD", hl, imm(255))}, {of("LD", regB, imm(-1)), of("LD", regB, imm(255))}, {of("LD", regB, imm(65535))}, {of("LD", de, imm(-1)), of("LD", de, imm(65535))},
		{of("JP", imm(-32768)), of("JP", imm(32768))}, {of("JP", imm(-32769))}, {of("RST", imm(-8))}, {of("RST", imm(248))}, {of("RST", imm(65528))}, {of("NOP"), {Op: "NOP", Args: []api.Operand{}}}, {{}}, {of("RET", opnd(1, 1, 0))}, {of("RET", opnd(8, 3, 0))},
	}
	for k, g := range groups {
		for m, h := range groups {
			for _, a := range g {
				for _, b := range h {
					if got := canon.Equal(a, b); got != (k == m) {
						t.Errorf("Equal(%v, %v) = %v", a, b, got)
					}
				}
			}
		}
	}
}

// instructions has one that each step changes, one that no step changes, and
// ones without operands.
func instructions() []api.Instr {
	return []api.Instr{of("SUB", regA, imm(-1)), of("CP", regA, regB), of("ADD", regB), of("ADC", imm(-1)), of("EX", hl, de), of("LD", regB, imm(-1)), of("LD", hl, imm(-1)), of("LD", regA, regB), of("RST", imm(8)), of("NOP"), of("FOO", imm(1), imm(2), imm(3), imm(4))}
}

// overwrite changes all operands of an instruction, also those behind them in
// the same memory.
func overwrite(i api.Instr) {
	l := i.Args[:cap(i.Args)]
	for k := range l {
		l[k] = opnd(99, 99, 99)
	}
}

// P8.2: the canonical form is new memory, and what lies behind the operands of
// the instruction is neither read nor written.
func TestResultsAreNew(t *testing.T) {
	for _, i := range instructions() {
		memory := append(slices.Clone(i.Args), imm(-77), regA, imm(-78))
		before := slices.Clone(memory)
		given := api.Instr{Op: i.Op, Args: memory[:len(i.Args)]}
		first, other := canon.Of(given), canon.Of(given)
		l, m := canon.All(given, given), canon.All(given, given)
		for _, r := range []api.Instr{first, l[0], m[1]} {
			overwrite(r)
		}
		if !slices.Equal(memory, before) {
			t.Errorf("Of(%v), or a change of its result, changed what is given to %v", i, memory)
		}
		for _, r := range []api.Instr{other, l[1], m[0], canon.Of(given)} {
			if !isSame(r, formOf(i)) {
				t.Errorf("results for %v share memory: %v", i, r)
			}
		}
		overwrite(given)
		if !isSame(other, formOf(i)) {
			t.Errorf("a change of %v changed its canonical form to %v", i, other)
		}
	}
}

// P8.2: Is, Equal, Width and All leave all instructions as they were.
func TestArgumentsStay(t *testing.T) {
	l, before := instructions(), instructions()
	for k, i := range l {
		canon.Width(i)
		canon.Is(i)
		canon.Equal(i, l[0])
		canon.Equal(l[len(l)-1-k], i)
	}
	r := canon.All(l...)
	for k := range r {
		r[k].Op = "changed"
		overwrite(r[k])
	}
	if !slices.EqualFunc(l, before, isSame) {
		t.Errorf("the instructions are now %v; want %v", l, before)
	}
}

// P8.3: the example of the chapter, and forms of forms of forms.
func TestFormsOfForms(t *testing.T) {
	wantOf(t, of("SUB", regA, imm(-1)), of("SUB", imm(255)))
	for _, i := range instructions() {
		form, width := canon.Of(i), canon.Width(i)
		for range 5 {
			next := canon.Of(form)
			if !isSame(next, form) || canon.Width(next) != width {
				t.Errorf("the canonical form of %v is %v, with the width %d; want the width %d", form, next, canon.Width(next), width)
			}
			form = next
		}
		if all := canon.All(canon.All(i)...); len(all) != 1 || !isSame(all[0], form) {
			t.Errorf("All(All(%v)) = %v", i, all)
		}
	}
}

// Rule 6: the functions may be called concurrently, also with the same
// instruction.
func TestConcurrentCalls(t *testing.T) {
	shared := instructions()
	var group sync.WaitGroup
	for range 8 {
		group.Go(func() {
			for range 100 {
				for _, i := range shared {
					wantModel(t, i)
				}
				if l := canon.All(shared...); len(l) != len(shared) {
					t.Errorf("All has %d instructions", len(l))
				}
			}
		})
	}
	group.Wait()
}
