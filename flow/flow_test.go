package flow_test

import (
	"math"
	"slices"
	"strings"
	"testing"

	"breadboard/api"
	"breadboard/decode"
	"breadboard/flow"
	"breadboard/image"
	"breadboard/num"
)

// none stands for a target that there is not.
const none = -1

func of(op string, args ...api.Operand) api.Instr { return api.Instr{Op: op, Args: args} }

func imm(n int) api.Operand { return api.Operand{Kind: api.Imm, N: n} }

func mem(n int) api.Operand { return api.Operand{Kind: api.Mem, N: n} }

func rel(n int) api.Operand { return api.Operand{Kind: api.Rel, N: n} }

func cond(reg int) api.Operand { return api.Operand{Kind: api.Cond, Reg: reg} }

func ind(reg int) api.Operand { return api.Operand{Kind: api.Ind, Reg: reg} }

func reg8(reg int) api.Operand { return api.Operand{Kind: api.R8, Reg: reg} }

func reg16(reg int) api.Operand { return api.Operand{Kind: api.R16, Reg: reg} }

func idx(reg, n int) api.Operand { return api.Operand{Kind: api.Idx, Reg: reg, N: n} }

// itemOf returns the first item of the bytes of a text with spaces between
// their digits.
func itemOf(t *testing.T, text string) api.Item {
	t.Helper()
	return decode.First(bytesOf(t, text))
}

func bytesOf(t *testing.T, text string) []byte {
	t.Helper()
	b, ok := num.Bytes(strings.ReplaceAll(text, " ", ""))
	if !ok {
		t.Fatal("no bytes:", text)
	}
	return b
}

// imageOf returns the image of a text of runs, each with its address, which is
// decimal, a colon and its bytes, and semicolons between them.
func imageOf(t *testing.T, text string) *image.Image {
	t.Helper()
	m := image.New()
	if text == "" {
		return m
	}
	for _, part := range strings.Split(text, ";") {
		word, data, _ := strings.Cut(strings.TrimSpace(part), ":")
		addr, ok := num.Parse(word)
		if code := m.Put(addr, bytesOf(t, data)...); !ok || code != api.OK {
			t.Fatal("no run:", part, code)
		}
	}
	return m
}

// stopIfFailed ends a test of very many inputs at the first that fails, so
// that its report stays short.
func stopIfFailed(t *testing.T) {
	t.Helper()
	if t.Failed() {
		t.FailNow()
	}
}

// checkEffect compares what the package says of an instruction at an address.
func checkEffect(t *testing.T, i api.Instr, addr, kind int, sometimes bool, target int) {
	t.Helper()
	if got := flow.Kind(i); got != kind {
		t.Errorf("Kind(%v) = %d, want %d", i, got, kind)
	}
	if got := flow.Sometimes(i); got != sometimes {
		t.Errorf("Sometimes(%v) = %t, want %t", i, got, sometimes)
	}
	if got, ok := flow.Target(addr, i); got != max(target, 0) || ok != (target != none) {
		t.Errorf("Target(%d, %v) = %d, %t, want %d", addr, i, got, ok, target)
	}
}

// P14.1: the numbers of the kinds.
func TestConstants(t *testing.T) {
	if got := []int{flow.Plain, flow.Jump, flow.Call, flow.Return, flow.Away}; !slices.Equal(got, []int{0, 1, 2, 3, 4}) {
		t.Errorf("the kinds are %v", got)
	}
}

// P14.1: instructions without a condition, at the address 1000.
func TestAlways(t *testing.T) {
	for _, c := range []struct {
		i            api.Instr
		kind, target int
	}{
		{of("JP", imm(0)), flow.Jump, 0}, {of("JP", imm(1)), flow.Jump, 1}, {of("JP", imm(1000)), flow.Jump, 1000}, {of("JP", imm(1003)), flow.Jump, 1003}, {of("JP", imm(0x1234)), flow.Jump, 0x1234}, {of("JP", imm(65535)), flow.Jump, 65535},
		{of("JR", rel(0)), flow.Jump, 1002}, {of("JR", rel(-2)), flow.Jump, 1000}, {of("JR", rel(5)), flow.Jump, 1007}, {of("JR", rel(-128)), flow.Jump, 874}, {of("JR", rel(127)), flow.Jump, 1129},
		{of("CALL", imm(0)), flow.Call, 0}, {of("CALL", imm(0x1234)), flow.Call, 0x1234}, {of("CALL", imm(1003)), flow.Call, 1003}, {of("CALL", imm(65535)), flow.Call, 65535},
		{of("RST", imm(0)), flow.Call, 0}, {of("RST", imm(8)), flow.Call, 8}, {of("RST", imm(16)), flow.Call, 16}, {of("RST", imm(24)), flow.Call, 24}, {of("RST", imm(32)), flow.Call, 32}, {of("RST", imm(40)), flow.Call, 40}, {of("RST", imm(48)), flow.Call, 48}, {of("RST", imm(56)), flow.Call, 56},
		{of("RET"), flow.Return, none}, {of("RETI"), flow.Return, none}, {of("RETN"), flow.Return, none},
		{of("JP", ind(api.HL)), flow.Away, none}, {of("JP", ind(api.IX)), flow.Away, none}, {of("JP", ind(api.IY)), flow.Away, none}, {of("HALT"), flow.Away, none},
		// With an empty list of operands instead of none
		{api.Instr{Op: "RET", Args: []api.Operand{}}, flow.Return, none}, {api.Instr{Op: "HALT", Args: []api.Operand{}}, flow.Away, none},
	} {
		checkEffect(t, c.i, 1000, c.kind, false, c.target)
	}
}

// P14.1: instructions with each condition, and DJNZ, at the address 1000.
func TestSometimes(t *testing.T) {
	for c := range 8 {
		checkEffect(t, of("JP", cond(c), imm(0)), 1000, flow.Jump, true, 0)
		checkEffect(t, of("JP", cond(c), imm(0x1234)), 1000, flow.Jump, true, 0x1234)
		checkEffect(t, of("CALL", cond(c), imm(0x1234)), 1000, flow.Call, true, 0x1234)
		checkEffect(t, of("CALL", cond(c), imm(65535)), 1000, flow.Call, true, 65535)
		checkEffect(t, of("RET", cond(c)), 1000, flow.Return, true, none)
	}
	for _, c := range []int{api.NZ, api.Z, api.NC, api.CY} {
		checkEffect(t, of("JR", cond(c), rel(-2)), 1000, flow.Jump, true, 1000)
		checkEffect(t, of("JR", cond(c), rel(127)), 1000, flow.Jump, true, 1129)
	}
	checkEffect(t, of("DJNZ", rel(-2)), 1000, flow.Jump, true, 1000)
	checkEffect(t, of("DJNZ", rel(0)), 1000, flow.Jump, true, 1002)
	checkEffect(t, of("DJNZ", rel(-128)), 1000, flow.Jump, true, 874)
}

// P14.1: instructions of which the canonical form only has the number of the
// target.
func TestCanonicalForm(t *testing.T) {
	for _, c := range []struct {
		i      api.Instr
		target int
	}{
		{of("JP", imm(-1)), 65535}, {of("JP", imm(-2)), 65534}, {of("JP", imm(-32768)), 32768}, {of("JP", imm(-256)), 65280}, {of("JP", imm(-128)), 65408},
	} {
		checkEffect(t, c.i, 7, flow.Jump, false, c.target)
		checkEffect(t, of("JP", cond(api.M), c.i.Args[0]), 7, flow.Jump, true, c.target)
		checkEffect(t, of("CALL", c.i.Args[0]), 7, flow.Call, false, c.target)
		checkEffect(t, of("CALL", cond(api.CY), c.i.Args[0]), 7, flow.Call, true, c.target)
	}
	for _, i := range []api.Instr{of("SUB", reg8(api.A), imm(-1)), of("ADD", imm(-128)), of("EX", reg16(api.HL), reg16(api.DE)), of("LD", reg8(api.B), imm(-5)), of("LD", reg16(api.HL), imm(-32768))} {
		checkEffect(t, i, 7, flow.Plain, false, none)
	}
}

// P14.1: instructions without an effect on the way of a program, some of which
// have numbers, or the register C.
func TestPlain(t *testing.T) {
	for _, i := range []api.Instr{
		of("NOP"), of("DI"), of("EI"), of("EXX"), of("LDIR"), of("CPIR"), of("OTDR"), of("NEG"), of("IM", imm(1)), of("BIT", imm(5), reg8(api.A)), of("RES", imm(0), idx(api.IX, 5), reg8(api.B)), of("SET", imm(7), ind(api.HL)),
		of("LD", reg8(api.A), imm(5)), of("LD", reg8(api.C), reg8(api.C)), of("LD", reg16(api.HL), imm(0x1234)), of("LD", reg8(api.A), mem(0x1234)), of("LD", reg16(api.SP), reg16(api.HL)), of("LD", idx(api.IX, -1), imm(255)), of("LD", ind(api.HL), reg8(api.C)),
		of("ADD", reg8(api.A), imm(5)), of("SUB", imm(5)), of("CP", imm(200)), of("INC", reg8(api.C)), of("DEC", reg16(api.SP)), of("PUSH", reg16(api.AF)), of("POP", reg16(api.IX)), of("EX", ind(api.SP), reg16(api.HL)), of("EX", reg16(api.AF), reg16(api.AF2)),
		of("IN", reg8(api.A), mem(254)), of("OUT", mem(254), reg8(api.A)), of("IN", ind(api.IndC)), of("OUT", ind(api.IndC), imm(0)), of("RLC", reg8(api.C)), of("SLL", ind(api.HL)), of("CCF"),
	} {
		checkEffect(t, i, 1000, flow.Plain, false, none)
	}
}

// P14.1: instructions that are not legal have no effect, do not act sometimes
// only, and have no target.
func TestIllegal(t *testing.T) {
	for _, i := range []api.Instr{
		{}, of("JP"), of("JR"), of("DJNZ"), of("CALL"), of("RST"), of("jp", imm(5)), of("Jr", rel(5)), of("djnz", rel(5)), of("call", imm(5)), of("rst", imm(8)), of("ret"), of("halt"), of("reti"), of("RETX"), of("JP ", imm(5)), of(" HALT"), of("RETNZ"), of("STOP"),
		of("JP", imm(65536)), of("JP", imm(-32769)), of("JP", imm(math.MaxInt)), of("JP", imm(math.MinInt)), of("JP", mem(5)), of("JP", rel(5)), of("JP", reg16(api.HL)), of("JP", ind(api.BC)), of("JP", ind(api.DE)), of("JP", ind(api.SP)), of("JP", ind(api.IndC)), of("JP", idx(api.IX, 0)), of("JP", cond(api.NZ)), of("JP", cond(api.NZ), ind(api.HL)), of("JP", imm(5), cond(api.NZ)), of("JP", imm(5), imm(5)), of("JP", reg8(api.C), imm(5)), of("JP", cond(8), imm(5)), of("JP", cond(-1), imm(5)), of("JP", cond(api.NZ), imm(65536)), of("JP", cond(api.NZ), rel(5)), of("JP", cond(api.NZ), cond(api.Z), imm(5)), of("JP", ind(api.HL), imm(5)),
		of("JP", api.Operand{Kind: api.Imm, Reg: 1, N: 5}), of("JP", api.Operand{Kind: api.Cond, N: 1}, imm(5)), of("JP", api.Operand{Kind: api.Ind, Reg: api.HL, N: 1}),
		of("JR", imm(5)), of("JR", imm(1000)), of("JR", rel(128)), of("JR", rel(-129)), of("JR", rel(math.MaxInt)), of("JR", rel(math.MinInt)), of("JR", cond(api.NZ)), of("JR", cond(api.PO), rel(5)), of("JR", cond(api.PE), rel(5)), of("JR", cond(api.P), rel(5)), of("JR", cond(api.M), rel(5)), of("JR", reg8(api.C), rel(5)), of("JR", rel(5), cond(api.NZ)), of("JR", cond(api.NZ), imm(5)), of("JR", ind(api.HL)), of("JR", cond(api.Z), rel(128)), of("JR", api.Operand{Kind: api.Rel, Reg: 1, N: 5}),
		of("DJNZ", imm(5)), of("DJNZ", rel(128)), of("DJNZ", rel(-129)), of("DJNZ", cond(api.NZ), rel(5)), of("DJNZ", reg8(api.B), rel(5)), of("DJNZ", rel(5), rel(5)), of("DJNZ", cond(api.NZ)),
		of("CALL", imm(65536)), of("CALL", imm(-32769)), of("CALL", ind(api.HL)), of("CALL", mem(5)), of("CALL", rel(5)), of("CALL", cond(api.Z)), of("CALL", reg8(api.C), imm(5)), of("CALL", cond(api.Z), imm(65536)), of("CALL", imm(5), cond(api.Z)),
		of("RST", imm(1)), of("RST", imm(7)), of("RST", imm(57)), of("RST", imm(64)), of("RST", imm(-8)), of("RST", imm(-200)), of("RST", rel(8)), of("RST", mem(8)), of("RST", cond(api.NZ), imm(8)), of("RST", cond(api.NZ)), of("RST", imm(8), imm(8)),
		of("RET", reg8(api.C)), of("RET", imm(5)), of("RET", cond(8)), of("RET", cond(api.NZ), cond(api.NZ)), of("RET", ind(api.HL)), of("RETI", cond(api.NZ)), of("RETN", cond(api.NZ)), of("RETI", imm(5)), of("RETN", reg8(api.A)),
		of("HALT", imm(5)), of("HALT", cond(api.NZ)), of("HALT", ind(api.HL)), of("NOP", cond(api.NZ)), of("LD", cond(api.NZ), imm(5)), of("LD", reg8(api.A), cond(api.NZ)), of("INC", cond(api.CY)), of("NOP", imm(5)), of("SUB", cond(api.CY)),
		{Op: "JP", Args: make([]api.Operand, 4)}, {Op: "RET", Args: make([]api.Operand, 1)}, {Op: "HALT", Args: make([]api.Operand, 1000)},
	} {
		checkEffect(t, i, 1000, flow.Plain, false, none)
		x := api.Item{Kind: api.Code1, Raw: []byte{1, 2, 3}, Instr: i}
		if next := flow.Next(1000, x); !slices.Equal(next, []int{1003}) {
			t.Errorf("Next of %v is %v", i, next)
		}
	}
}

// wrapped returns the target of a distance, counted step by step.
func wrapped(addr, distance int) int {
	n := addr + 2 + distance
	for n < 0 {
		n += 65536
	}
	for n > 65535 {
		n -= 65536
	}
	return n
}

// P14.1: relative jumps over both ends of the address space.
func TestTargetWraps(t *testing.T) {
	for _, c := range []struct{ addr, distance, target int }{
		{0, 0, 2}, {0, -2, 0}, {0, -3, 65535}, {0, -128, 65410}, {0, 127, 129}, {1, -3, 0}, {1, -4, 65535}, {1, -128, 65411}, {2, -4, 0}, {125, -128, 65535}, {126, -128, 0}, {127, -128, 1},
		{65535, 0, 1}, {65535, -1, 0}, {65535, -2, 65535}, {65535, -3, 65534}, {65535, 127, 128}, {65535, -128, 65409}, {65534, 0, 0}, {65534, -1, 65535}, {65534, 2, 2}, {65533, 0, 65535}, {65533, 1, 0}, {65407, 126, 65535}, {65407, 127, 0}, {65406, 127, 65535}, {32768, -2, 32768},
	} {
		for _, i := range []api.Instr{of("JR", rel(c.distance)), of("JR", cond(api.CY), rel(c.distance)), of("DJNZ", rel(c.distance))} {
			if n, ok := flow.Target(c.addr, i); n != c.target || !ok {
				t.Errorf("Target(%d, %v) = %d, %t, want %d", c.addr, i, n, ok, c.target)
			}
		}
	}
}

// P14.1: all distances near both ends, and some at all addresses.
func TestTargetEverywhere(t *testing.T) {
	t.Parallel()
	check := func(addr, distance int) {
		i := of("JR", rel(distance))
		if n, ok := flow.Target(addr, i); n != wrapped(addr, distance) || !ok {
			t.Errorf("Target(%d, %v) = %d, %t, want %d", addr, i, n, ok, wrapped(addr, distance))
		}
		stopIfFailed(t)
	}
	for addr := range 65536 {
		check(addr, addr%256-128)
		if addr > 135 && addr < 65400 {
			continue
		}
		for distance := -128; distance <= 127; distance++ {
			check(addr, distance)
		}
	}
}

// P14.1: a target that is a number is the same at all addresses.
func TestTargetOfNumbers(t *testing.T) {
	for _, addr := range []int{0, 1, 2, 255, 256, 32767, 32768, 65532, 65533, 65534, 65535} {
		for _, n := range []int{0, 1, 3, 255, 256, 32767, 32768, 65533, 65535} {
			checkEffect(t, of("JP", imm(n)), addr, flow.Jump, false, n)
			checkEffect(t, of("CALL", cond(api.P), imm(n)), addr, flow.Call, true, n)
		}
		checkEffect(t, of("RST", imm(56)), addr, flow.Call, false, 56)
		checkEffect(t, of("RET"), addr, flow.Return, false, none)
		checkEffect(t, of("JP", ind(api.HL)), addr, flow.Away, false, none)
	}
}

// noAddresses has numbers of which there are no addresses.
var noAddresses = []int{-1, -2, -3, -128, -130, -65535, -65536, -65537, 65536, 65537, 65538, 70000, 131072, 1 << 32, 1<<32 + 5, -1 << 32, math.MaxInt, math.MaxInt - 1, math.MaxInt - 3, math.MinInt, math.MinInt + 1}

// P14.1 and P14.2: addresses that there are not.
func TestNoAddress(t *testing.T) {
	for _, addr := range noAddresses {
		for _, text := range []string{"00", "C3 34 12", "CA 34 12", "18 05", "18 80", "20 7F", "10 FE", "CD 34 12", "DC 00 00", "FF", "C7", "C9", "C0", "E9", "76", "DD", "DD 00", "ED 00", "C3 00", "ED", "DD CB 01 06"} {
			x := itemOf(t, text)
			if n, ok := flow.Target(addr, x.Instr); n != 0 || ok {
				t.Errorf("Target(%d, %s) = %d, %t", addr, text, n, ok)
			}
			if l := flow.Next(addr, x); len(l) != 0 {
				t.Errorf("Next(%d, %s) = %v", addr, text, l)
			}
		}
		if l := flow.Next(addr, api.Item{}); len(l) != 0 {
			t.Errorf("Next(%d) of a zero Item is %v", addr, l)
		}
	}
}

// next has items with the addresses after them.
var next = []struct {
	addr int
	raw  string
	want []int
}{
	// Plain instructions of 1 to 4 bytes
	{0, "00", []int{1}}, {100, "3E 05", []int{102}}, {100, "21 34 12", []int{103}}, {100, "DD 21 34 12", []int{104}}, {100, "DD CB 01 A8", []int{104}}, {100, "ED B0", []int{102}}, {100, "FB", []int{101}},
	{65535, "00", nil}, {65534, "00", []int{65535}}, {65534, "3E 05", nil}, {65533, "3E 05", []int{65535}}, {65532, "21 34 12", []int{65535}}, {65533, "21 34 12", nil}, {65531, "DD 21 34 12", []int{65535}}, {65532, "DD 21 34 12", nil}, {65535, "DD 21 34 12", nil},
	// Aliases
	{100, "ED 4C", []int{102}}, {100, "ED 63 01 02", []int{104}}, {100, "ED 5D", nil}, {100, "ED 7D", nil},
	// Strays, Holes and Truncated items
	{100, "DD 00", []int{101}}, {100, "FD FD", []int{101}}, {100, "DD C3 00 00", []int{101}}, {0, "FD 76", []int{1}}, {65535, "DD 00", nil}, {65534, "DD 00", []int{65535}},
	{100, "ED 00", []int{102}}, {0, "ED FF", []int{2}}, {65533, "ED 00", []int{65535}}, {65534, "ED 00", nil}, {65535, "ED C9", nil},
	{100, "C3", nil}, {100, "C3 00", nil}, {100, "3E", nil}, {100, "DD", nil}, {100, "ED", nil}, {100, "DD CB 05", nil}, {0, "18", nil}, {100, "CD 00", nil}, {65535, "CB", nil}, {65533, "21 34", nil},
	// Jumps
	{100, "C3 34 12", []int{0x1234}}, {100, "C3 64 00", []int{100}}, {100, "C3 67 00", []int{103}}, {0, "C3 00 00", []int{0}}, {65535, "C3 FF FF", []int{65535}}, {65533, "C3 00 00", []int{0}},
	{100, "18 05", []int{107}}, {100, "18 FE", []int{100}}, {100, "18 00", []int{102}}, {1, "18 80", []int{65411}}, {65534, "18 00", []int{0}}, {65535, "18 00", []int{1}}, {65533, "18 00", []int{65535}},
	{100, "CA 34 12", []int{103, 0x1234}}, {100, "F2 64 00", []int{103, 100}}, {100, "FA 67 00", []int{103}}, {65532, "C2 00 00", []int{65535, 0}}, {65533, "C2 00 00", []int{0}}, {65533, "DA FF FF", []int{65535}}, {65532, "DA FF FF", []int{65535}}, {500, "C2 03 00", []int{503, 3}},
	{100, "20 03", []int{102, 105}}, {100, "28 FE", []int{102, 100}}, {100, "30 00", []int{102}}, {100, "38 80", []int{102, 65510}}, {65534, "20 02", []int{2}}, {65534, "20 00", []int{0}}, {65533, "20 00", []int{65535}}, {65533, "20 01", []int{65535, 0}}, {65535, "38 00", []int{1}},
	{100, "10 FE", []int{102, 100}}, {100, "10 00", []int{102}}, {100, "10 7F", []int{102, 229}}, {0, "10 FD", []int{2, 65535}}, {65535, "10 FE", []int{65535}}, {65534, "10 FE", []int{65534}},
	// Calls
	{100, "CD 34 12", []int{103, 0x1234}}, {100, "CD 67 00", []int{103}}, {100, "CD 64 00", []int{103, 100}}, {65533, "CD 34 12", []int{0x1234}}, {65532, "CD 00 00", []int{65535, 0}}, {100, "DC 34 12", []int{103, 0x1234}}, {100, "C4 67 00", []int{103}}, {65534, "DC 34 12", []int{0x1234}},
	{100, "FF", []int{101, 56}}, {100, "C7", []int{101, 0}}, {7, "CF", []int{8}}, {55, "FF", []int{56}}, {56, "FF", []int{57, 56}}, {8, "CF", []int{9, 8}}, {65535, "C7", []int{0}}, {65535, "FF", []int{56}},
	// Returns, and where a program goes away
	{100, "C9", nil}, {100, "C0", []int{101}}, {100, "D8", []int{101}}, {65535, "D8", nil}, {65534, "F8", []int{65535}}, {100, "ED 45", nil}, {100, "ED 4D", nil}, {100, "ED 55", nil},
	{100, "E9", nil}, {100, "DD E9", nil}, {100, "FD E9", nil}, {100, "76", nil}, {65535, "76", nil},
}

// P14.2: the addresses after items, in order.
func TestNext(t *testing.T) {
	for _, c := range next {
		if got := flow.Next(c.addr, itemOf(t, c.raw)); !slices.Equal(got, c.want) {
			t.Errorf("Next(%d, %s) = %v, want %v", c.addr, c.raw, got, c.want)
		}
	}
}

// P14.2: items that are made by hand.
func TestNextOfOddItems(t *testing.T) {
	jump, call, some := of("JP", imm(7)), of("CALL", imm(-1)), of("JR", cond(api.NZ), rel(-2))
	for _, c := range []struct {
		addr int
		x    api.Item
		want []int
	}{
		// Another number of bytes than that of the instruction, and other bytes
		{100, api.Item{Kind: api.Code1, Raw: make([]byte, 2), Instr: jump}, []int{7}}, {100, api.Item{Kind: api.Code1, Raw: make([]byte, 5), Instr: call}, []int{105, 65535}}, {100, api.Item{Kind: api.Code1, Instr: call}, []int{100, 65535}}, {100, api.Item{Kind: api.Code1, Instr: some}, []int{100}}, {65535, api.Item{Kind: api.Code1, Instr: call}, []int{65535}}, {7, api.Item{Kind: api.Code1, Raw: []byte{0}, Instr: of("HALT")}, nil},
		{0, api.Item{Kind: api.Code1, Raw: make([]byte, 65535), Instr: of("NOP")}, []int{65535}}, {0, api.Item{Kind: api.Code1, Raw: make([]byte, 65536), Instr: of("NOP")}, nil}, {65535, api.Item{Kind: api.Stray, Raw: make([]byte, 70000)}, nil},
		// The alias does not count
		{100, api.Item{Kind: api.Code1, Raw: []byte{0}, Instr: jump, Alias: true}, []int{7}}, {100, api.Item{Kind: api.Stray, Raw: []byte{0xC3}, Alias: true}, []int{101}},
		// Other kinds have no instruction, whatever is in the field
		{100, api.Item{Kind: api.Stray, Raw: []byte{0xDD}, Instr: of("RET")}, []int{101}}, {100, api.Item{Kind: api.Hole, Raw: []byte{0xED, 0}, Instr: of("HALT")}, []int{102}}, {100, api.Item{Kind: api.Truncated, Raw: []byte{0xC3}, Instr: of("NOP")}, nil},
		// Kinds that there are not
		{100, api.Item{}, []int{100}}, {65535, api.Item{}, []int{65535}}, {100, api.Item{Raw: []byte{1, 2}}, []int{102}}, {100, api.Item{Kind: 5, Raw: []byte{1}}, []int{101}}, {100, api.Item{Kind: -1, Raw: []byte{1}}, []int{101}}, {100, api.Item{Kind: 260, Raw: []byte{1}}, []int{101}},
	} {
		if got := flow.Next(c.addr, c.x); !slices.Equal(got, c.want) {
			t.Errorf("Next(%d, %v) = %v, want %v", c.addr, c.x, got, c.want)
		}
	}
}

// P14.3: items of images.
func TestItem(t *testing.T) {
	for _, c := range []struct {
		m    string
		addr int
		raw  string // "" if there is no item
		kind int
	}{
		{"", 0, "", 0}, {"", 65535, "", 0}, {"5: 00", 4, "", 0}, {"5: 00", 5, "00", api.Code1}, {"5: 00", 6, "", 0},
		// No more bytes than the item has
		{"0: 00 00 00 00 00", 0, "00", api.Code1}, {"0: 21 34 12 00", 0, "21 34 12", api.Code1}, {"0: 21 34 12 00", 1, "34", api.Code1}, {"0: 21 34 12 00", 2, "12", api.Code1}, {"0: DD CB 01 A8 00", 0, "DD CB 01 A8", api.Code1}, {"0: DD 00 00 00", 0, "DD", api.Stray}, {"0: ED 00 00 00", 0, "ED 00", api.Hole}, {"0: DD DD DD DD DD", 0, "DD", api.Stray}, {"7: ED 4C 00", 7, "ED 4C", api.Code1},
		// The end of a run
		{"9: 3E", 9, "3E", api.Truncated}, {"9: 21 34", 9, "21 34", api.Truncated}, {"9: DD CB 05", 9, "DD CB 05", api.Truncated}, {"9: 00 DD", 10, "DD", api.Truncated}, {"9: DD 21 34", 9, "DD 21 34", api.Truncated}, {"9: DD 21 34", 10, "21 34", api.Truncated}, {"9: DD 21 34 12", 9, "DD 21 34 12", api.Code1}, {"9: 00 00", 10, "00", api.Code1},
		// Another run behind a gap, which belongs to no item of the first one
		{"9: 21 34; 12: 12", 9, "21 34", api.Truncated}, {"9: 21; 11: 34 12", 9, "21", api.Truncated}, {"9: DD; 11: 00", 9, "DD", api.Truncated}, {"9: DD CB 01; 13: 06", 9, "DD CB 01", api.Truncated}, {"9: 21; 11: 34 12", 10, "", 0}, {"9: 21; 11: 3E 12", 11, "3E 12", api.Code1}, {"9: 00; 11: 34 12", 9, "00", api.Code1}, {"9: DD CB; 12: 06 06", 9, "DD CB", api.Truncated},
		// Runs beside each other are one
		{"9: 21 34; 11: 12", 9, "21 34 12", api.Code1}, {"11: 12; 10: 34; 9: 21", 9, "21 34 12", api.Code1},
		// The last address, behind which there is not the first one
		{"65535: 00", 65535, "00", api.Code1}, {"65535: 3E; 0: 05", 65535, "3E", api.Truncated}, {"65535: DD; 0: 00", 65535, "DD", api.Truncated}, {"65534: 21 34; 0: 12", 65534, "21 34", api.Truncated}, {"65533: 21 34 12; 0: 12", 65533, "21 34 12", api.Code1}, {"65532: DD 36 01 02", 65532, "DD 36 01 02", api.Code1}, {"65533: DD 36 01; 0: 02", 65533, "DD 36 01", api.Truncated}, {"65534: ED 00", 65534, "ED 00", api.Hole},
	} {
		x, ok := flow.Item(imageOf(t, c.m), c.addr)
		want := api.Item{Kind: c.kind, Raw: bytesOf(t, c.raw)}
		if c.kind == api.Code1 {
			want = itemOf(t, c.raw)
		}
		if ok != (c.raw != "") || !decode.Same(x, want) {
			t.Errorf("Item(%s, %d) = %v, %t, want %s", c.m, c.addr, x, ok, c.raw)
		}
	}
}

// P14.3: the first bytes of an instruction, at both ends and between them.
func TestItemOfEachLength(t *testing.T) {
	b := bytesOf(t, "DD CB 01 A8")
	for _, addr := range []int{0, 1, 500, 65531, 65532} {
		for n := range 5 {
			m := image.New()
			m.Put(addr, b[:n]...)
			x, ok := flow.Item(m, addr)
			want := decode.First(b[:n])
			if ok != (n > 0) || !decode.Same(x, want) {
				t.Errorf("Item of %d bytes at %d is %v, %t", n, addr, x, ok)
			}
		}
	}
}

// P14.3: addresses that there are not, and a nil image.
func TestNoItem(t *testing.T) {
	full := image.New()
	full.Put(0, make([]byte, api.Space)...)
	check := func(m *image.Image, addr int) {
		if x, ok := flow.Item(m, addr); ok || !decode.Same(x, api.Item{}) || x.Kind != 0 || len(x.Raw) != 0 {
			t.Errorf("Item at %d is %v, %t", addr, x, ok)
		}
	}
	for _, addr := range noAddresses {
		check(full, addr)
		check(image.New(), addr)
		check(nil, addr)
	}
	for _, addr := range []int{0, 1, 100, 65535} {
		check(nil, addr)
		check(image.New(), addr)
	}
}

// P14.3 and rule 4: an item shares no memory with the image or other items.
func TestItemIsNew(t *testing.T) {
	const text = "0: DD 36 05 07 C3 34 12"
	m := imageOf(t, text)
	for _, addr := range []int{0, 1, 4, 6} {
		x, _ := flow.Item(m, addr)
		other, _ := flow.Item(m, addr)
		want := decode.First(bytesOf(t, "DD 36 05 07 C3 34 12")[addr:])
		raw := x.Raw[:cap(x.Raw)]
		for k := range raw {
			raw[k] ^= 0xFF
		}
		for k := range x.Instr.Args {
			x.Instr.Args[k] = api.Operand{Kind: 99, Reg: 98, N: 97}
		}
		if again, _ := flow.Item(m, addr); !decode.Same(other, want) || !decode.Same(again, want) {
			t.Errorf("items at %d share memory: %v, %v", addr, other, again)
		}
	}
	if !image.Same(m, imageOf(t, text)) {
		t.Error("the image has changed")
	}
}

// P14.1, P14.2 and rule 4: arguments are not modified.
func TestArgumentsStay(t *testing.T) {
	for _, i := range []api.Instr{of("JP", imm(-1)), of("CALL", cond(api.NZ), imm(-2)), of("SUB", reg8(api.A), imm(-3)), of("ADD", reg8(api.B)), of("EX", reg16(api.HL), reg16(api.DE)), of("JR", rel(5))} {
		args := slices.Clone(i.Args)
		raw := []byte{1, 2, 3}
		x := api.Item{Kind: api.Code1, Raw: raw[:2], Instr: i}
		flow.Kind(i)
		flow.Sometimes(i)
		flow.Target(5, i)
		l := flow.Next(5, x)
		for k := range l {
			l[k] = -9
		}
		if !slices.Equal(i.Args, args) || !slices.Equal(raw, []byte{1, 2, 3}) {
			t.Errorf("%v has changed, want operands %v", i, args)
		}
	}
}

// Examples of the chapter.
func TestExamples(t *testing.T) {
	i := of("JR", cond(api.NZ), rel(3))
	if l := flow.Next(100, api.Item{Kind: api.Code1, Raw: []byte{0x20, 0x03}, Instr: i}); !slices.Equal(l, []int{102, 105}) {
		t.Errorf("Next = %v", l)
	}
}
