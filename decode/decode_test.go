package decode_test

import (
	"bytes"
	"fmt"
	"math"
	"slices"
	"strconv"
	"strings"
	"sync"
	"testing"

	"breadboard/api"
	"breadboard/decode"
	"breadboard/instr"
	"breadboard/num"
	"breadboard/operand"
)

// of returns the instruction that a text stands for. Numbers are decimal, and
// an e in front of one makes it a distance. C is a condition where RET, JR, JP
// or CALL can have one.
func of(t *testing.T, text string) api.Instr {
	t.Helper()
	op, args, hasArgs := strings.Cut(text, " ")
	i := api.Instr{Op: op}
	if !hasArgs {
		return i
	}
	for k, word := range strings.Split(args, ",") {
		isCondition := k == 0 && (op == "RET" || op == "JR" || op == "JP" || op == "CALL")
		i.Args = append(i.Args, operandOf(t, word, isCondition))
	}
	return i
}

func operandOf(t *testing.T, word string, isCondition bool) api.Operand {
	t.Helper()
	if n, err := strconv.Atoi(word); err == nil {
		return api.Operand{Kind: api.Imm, N: n}
	}
	if rest, ok := strings.CutPrefix(word, "e"); ok {
		n, err := strconv.Atoi(rest)
		if err != nil {
			t.Fatal("no distance:", word)
		}
		return api.Operand{Kind: api.Rel, N: n}
	}
	if inner, ok := strings.CutPrefix(word, "("); ok {
		return memoryOf(t, strings.TrimSuffix(inner, ")"))
	}
	for _, o := range operand.Named(word) {
		if len(operand.Named(word)) == 1 || (o.Kind == api.Cond) == isCondition {
			return o
		}
	}
	t.Fatal("no operand:", word)
	return api.Operand{}
}

// memoryOf returns the operand that has a text in brackets.
func memoryOf(t *testing.T, inner string) api.Operand {
	t.Helper()
	if n, err := strconv.Atoi(inner); err == nil {
		return api.Operand{Kind: api.Mem, N: n}
	}
	if inner == "C" {
		return api.Operand{Kind: api.Ind, Reg: api.IndC}
	}
	if len(inner) > 2 {
		n, err := strconv.Atoi(inner[2:])
		if err != nil {
			t.Fatal("no displacement:", inner)
		}
		return api.Operand{Kind: api.Idx, Reg: operand.Named(inner[:2])[0].Reg, N: n}
	}
	return api.Operand{Kind: api.Ind, Reg: operand.Named(inner)[0].Reg}
}

// bytesOf returns the bytes of a text with spaces between their digits.
func bytesOf(t *testing.T, text string) []byte {
	t.Helper()
	b, ok := num.Bytes(strings.ReplaceAll(text, " ", ""))
	if !ok {
		t.Fatal("no bytes:", text)
	}
	return b
}

// hex returns bytes as texts of the tests have them.
func hex(b []byte) string { return fmt.Sprintf("% X", b) }

// stopIfFailed ends a test of very many inputs at the first that fails, so
// that its report stays short.
func stopIfFailed(t *testing.T) {
	t.Helper()
	if t.Failed() {
		t.FailNow()
	}
}

// itemOf returns the item with the bytes of a text that a word stands for: the
// name of a kind, or an instruction, which is that of an alias if a * follows.
func itemOf(t *testing.T, raw, word string) api.Item {
	t.Helper()
	item := api.Item{Raw: bytesOf(t, raw)}
	switch word {
	case "stray":
		item.Kind = api.Stray
	case "hole":
		item.Kind = api.Hole
	case "truncated":
		item.Kind = api.Truncated
	default:
		text, isAlias := strings.CutSuffix(word, "*")
		item.Kind, item.Instr, item.Alias = api.Code1, of(t, text), isAlias
	}
	return item
}

// isSame compares all fields of items, without the package.
func isSame(a, b api.Item) bool {
	return a.Kind == b.Kind && bytes.Equal(a.Raw, b.Raw) && a.Instr.Op == b.Instr.Op && slices.Equal(a.Instr.Args, b.Instr.Args) && a.Alias == b.Alias
}

// rests has bytes that follow an item, which make no difference to it.
var rests = []string{"", "00", "FF", "05", "80", "CB", "DD", "ED", "FD", "DD CB", "CB 00", "FD CB 01 46", "ED 44", "3E 05", "FF FF FF FF FF", "00 00 00 00 00 00"}

// whole has the bytes of items that need no more of them, and the items.
var whole = []struct{ raw, want string }{
	// Main, without numbers that follow
	{"00", "NOP"}, {"02", "LD (BC),A"}, {"03", "INC BC"}, {"04", "INC B"}, {"35", "DEC (HL)"}, {"07", "RLCA"}, {"08", "EX AF,AF'"}, {"09", "ADD HL,BC"}, {"1A", "LD A,(DE)"}, {"3B", "DEC SP"}, {"76", "HALT"}, {"78", "LD A,B"}, {"77", "LD (HL),A"}, {"66", "LD H,(HL)"}, {"41", "LD B,C"}, {"4F", "LD C,A"},
	{"80", "ADD A,B"}, {"8E", "ADC A,(HL)"}, {"95", "SUB L"}, {"9F", "SBC A,A"}, {"A4", "AND H"}, {"AF", "XOR A"}, {"B6", "OR (HL)"}, {"BB", "CP E"}, {"C9", "RET"}, {"C0", "RET NZ"}, {"D8", "RET C"}, {"F1", "POP AF"}, {"C5", "PUSH BC"}, {"D9", "EXX"}, {"E9", "JP (HL)"}, {"F9", "LD SP,HL"}, {"E3", "EX (SP),HL"}, {"EB", "EX DE,HL"}, {"F3", "DI"}, {"FB", "EI"}, {"C7", "RST 0"}, {"DF", "RST 24"}, {"FF", "RST 56"},
	// Main, with a byte as it is
	{"06 12", "LD B,18"}, {"3E 00", "LD A,0"}, {"3E 7F", "LD A,127"}, {"3E 80", "LD A,128"}, {"3E FF", "LD A,255"}, {"36 80", "LD (HL),128"}, {"C6 07", "ADD A,7"}, {"D6 FF", "SUB 255"}, {"FE 00", "CP 0"}, {"D3 FE", "OUT (254),A"}, {"D3 00", "OUT (0),A"}, {"DB FF", "IN A,(255)"}, {"DB 80", "IN A,(128)"}, {"3E DD", "LD A,221"}, {"06 CB", "LD B,203"},
	// Main, with a distance
	{"10 FE", "DJNZ e-2"}, {"10 80", "DJNZ e-128"}, {"10 7F", "DJNZ e127"}, {"18 00", "JR e0"}, {"18 7F", "JR e127"}, {"18 80", "JR e-128"}, {"18 FF", "JR e-1"}, {"20 80", "JR NZ,e-128"}, {"28 7F", "JR Z,e127"}, {"30 01", "JR NC,e1"}, {"38 FF", "JR C,e-1"},
	// Main, with two bytes
	{"01 34 12", "LD BC,4660"}, {"11 00 00", "LD DE,0"}, {"31 00 FF", "LD SP,65280"}, {"21 FF FF", "LD HL,65535"}, {"21 FF 7F", "LD HL,32767"}, {"21 00 80", "LD HL,32768"}, {"21 FF 00", "LD HL,255"}, {"22 34 12", "LD (4660),HL"}, {"2A FF 00", "LD HL,(255)"}, {"32 FF FF", "LD (65535),A"}, {"3A 00 01", "LD A,(256)"}, {"C3 02 01", "JP 258"}, {"C3 00 00", "JP 0"}, {"FA FE FF", "JP M,65534"}, {"CD 00 80", "CALL 32768"}, {"D4 01 00", "CALL NC,1"}, {"DC FF FF", "CALL C,65535"}, {"21 DD CB", "LD HL,52189"},
	// CB
	{"CB 00", "RLC B"}, {"CB 36", "SLL (HL)"}, {"CB 37", "SLL A"}, {"CB 3F", "SRL A"}, {"CB 40", "BIT 0,B"}, {"CB 7E", "BIT 7,(HL)"}, {"CB 87", "RES 0,A"}, {"CB EB", "SET 5,E"}, {"CB CB", "SET 1,E"}, {"CB DD", "SET 3,L"}, {"CB FF", "SET 7,A"},
	// ED
	{"ED 40", "IN B,(C)"}, {"ED 70", "IN (C)"}, {"ED 78", "IN A,(C)"}, {"ED 71", "OUT (C),0"}, {"ED 59", "OUT (C),E"}, {"ED 72", "SBC HL,SP"}, {"ED 5A", "ADC HL,DE"}, {"ED 44", "NEG"}, {"ED 45", "RETN"}, {"ED 4D", "RETI"}, {"ED 46", "IM 0"}, {"ED 56", "IM 1"}, {"ED 5E", "IM 2"}, {"ED 47", "LD I,A"}, {"ED 5F", "LD A,R"}, {"ED 67", "RRD"}, {"ED 6F", "RLD"}, {"ED A0", "LDI"}, {"ED B1", "CPIR"}, {"ED BB", "OTDR"},
	{"ED 43 34 12", "LD (4660),BC"}, {"ED 7B FE FF", "LD SP,(65534)"}, {"ED 5B 00 00", "LD DE,(0)"}, {"ED 73 FF FF", "LD (65535),SP"}, {"ED 4B 00 80", "LD BC,(32768)"},
	// ED, aliases
	{"ED 63 01 02", "LD (513),HL*"}, {"ED 63 FF FF", "LD (65535),HL*"}, {"ED 6B 00 00", "LD HL,(0)*"}, {"ED 6B 02 01", "LD HL,(258)*"}, {"ED 4C", "NEG*"}, {"ED 7C", "NEG*"}, {"ED 55", "RETN*"}, {"ED 5D", "RETN*"}, {"ED 4E", "IM 0*"}, {"ED 66", "IM 0*"}, {"ED 6E", "IM 0*"}, {"ED 76", "IM 1*"}, {"ED 7E", "IM 2*"},
	// ED, holes
	{"ED 00", "hole"}, {"ED 3F", "hole"}, {"ED 77", "hole"}, {"ED 7F", "hole"}, {"ED 80", "hole"}, {"ED 9F", "hole"}, {"ED A4", "hole"}, {"ED BC", "hole"}, {"ED C0", "hole"}, {"ED CB", "hole"}, {"ED DD", "hole"}, {"ED ED", "hole"}, {"ED FD", "hole"}, {"ED FF", "hole"},
	// DD
	{"DD 21 02 01", "LD IX,258"}, {"DD 22 01 02", "LD (513),IX"}, {"DD 2A FF FF", "LD IX,(65535)"}, {"DD 21 00 00", "LD IX,0"}, {"DD 39", "ADD IX,SP"}, {"DD 29", "ADD IX,IX"}, {"DD 23", "INC IX"}, {"DD 24", "INC IXH"}, {"DD 2E C8", "LD IXL,200"}, {"DD 26 FF", "LD IXH,255"}, {"DD 65", "LD IXH,IXL"}, {"DD 69", "LD IXL,C"}, {"DD 84", "ADD A,IXH"}, {"DD E9", "JP (IX)"}, {"DD E3", "EX (SP),IX"}, {"DD E5", "PUSH IX"}, {"DD F9", "LD SP,IX"},
	{"DD 34 00", "INC (IX+0)"}, {"DD 7E 05", "LD A,(IX+5)"}, {"DD 7E FF", "LD A,(IX-1)"}, {"DD 75 FE", "LD (IX-2),L"}, {"DD 66 80", "LD H,(IX-128)"}, {"DD BE 7F", "CP (IX+127)"}, {"DD 36 01 02", "LD (IX+1),2"}, {"DD 36 80 FF", "LD (IX-128),255"}, {"DD 36 7F 00", "LD (IX+127),0"}, {"DD 36 FF 80", "LD (IX-1),128"},
	// FD
	{"FD 21 FF FF", "LD IY,65535"}, {"FD 22 34 12", "LD (4660),IY"}, {"FD 2A 01 00", "LD IY,(1)"}, {"FD 29", "ADD IY,IY"}, {"FD 2D", "DEC IYL"}, {"FD 26 01", "LD IYH,1"}, {"FD BD", "CP IYL"}, {"FD E9", "JP (IY)"}, {"FD E1", "POP IY"}, {"FD 35 FF", "DEC (IY-1)"}, {"FD 77 7F", "LD (IY+127),A"}, {"FD 9E 80", "SBC A,(IY-128)"}, {"FD 36 80 80", "LD (IY-128),128"}, {"FD 36 80 7F", "LD (IY-128),127"}, {"FD 36 03 04", "LD (IY+3),4"},
	// DDCB and FDCB
	{"DD CB 01 06", "RLC (IX+1)"}, {"DD CB 01 00", "RLC (IX+1),B"}, {"DD CB FF 3F", "SRL (IX-1),A"}, {"DD CB 01 6E", "BIT 5,(IX+1)"}, {"DD CB 01 AE", "RES 5,(IX+1)"}, {"DD CB 01 A8", "RES 5,(IX+1),B"}, {"DD CB 80 FE", "SET 7,(IX-128)"}, {"DD CB 7F C5", "SET 0,(IX+127),L"}, {"DD CB CB CB", "SET 1,(IX-53),E"}, {"DD CB DD 46", "BIT 0,(IX-35)"},
	{"FD CB FF 36", "SLL (IY-1)"}, {"FD CB FF 34", "SLL (IY-1),H"}, {"FD CB 7F 46", "BIT 0,(IY+127)"}, {"FD CB 80 BB", "RES 7,(IY-128),E"}, {"FD CB 00 FE", "SET 7,(IY+0)"}, {"FD CB 7F FF", "SET 7,(IY+127),A"}, {"FD CB 40 19", "RR (IY+64),C"},
	{"DD CB 01 68", "BIT 5,(IX+1)*"}, {"DD CB 80 6F", "BIT 5,(IX-128)*"}, {"DD CB 7F 40", "BIT 0,(IX+127)*"}, {"FD CB FE 47", "BIT 0,(IY-2)*"}, {"FD CB 00 7D", "BIT 7,(IY+0)*"},
}

// P12.1 to P12.3: items of every page with each letter of Extra, with numbers
// at both ends of their ranges, alone and with bytes behind them.
func TestWhole(t *testing.T) {
	for _, c := range whole {
		want := itemOf(t, c.raw, c.want)
		for _, rest := range rests {
			checkFirst(t, bytesOf(t, c.raw+rest), want, len(want.Raw))
		}
	}
}

// checkFirst compares what the package says of the first item of some bytes
// with the item and the number of bytes that it needs.
func checkFirst(t *testing.T, b []byte, want api.Item, need int) {
	t.Helper()
	item := decode.First(b)
	if !isSame(item, want) || !decode.Same(item, want) {
		t.Errorf("First(%s) = %v, want %v", hex(b), item, want)
	}
	if n := decode.Need(b); n != need {
		t.Errorf("Need(%s) = %d, want %d", hex(b), n, need)
	}
	if item, n, ok := decode.At(b, 0); !isSame(item, want) || n != len(want.Raw) || !ok {
		t.Errorf("At(%s, 0) = %v, %d, %t, want %v", hex(b), item, n, ok, want)
	}
	i, ok := decode.Instr(b...)
	wantI, wantOK := api.Instr{}, want.Kind == api.Code1 && len(want.Raw) == len(b)
	if wantOK {
		wantI = want.Instr
	}
	if !instr.Same(i, wantI) || ok != wantOK {
		t.Errorf("Instr(%s) = %v, %t, want %v, %t", hex(b), i, ok, wantI, wantOK)
	}
}

// P12.1 to P12.3: DD and FD have no effect in front of these bytes, of which
// only the first one is read.
func TestStrays(t *testing.T) {
	for _, prefix := range []string{"DD", "FD"} {
		want := itemOf(t, prefix, "stray")
		for _, op := range []string{
			"00", "01", "04", "06", "07", "08", "0F", "10", "18", "20", "27", "2F", "31", "32", "37", "3A", "3E", "3F", "40", "47", "76", "78", "7F", "80", "87", "B8", "BF",
			"C0", "C1", "C3", "C4", "C6", "C7", "C9", "CD", "D3", "D9", "DB", "DD", "E0", "E7", "EB", "ED", "F1", "F3", "F5", "FB", "FD", "FE", "FF",
		} {
			for _, rest := range rests {
				checkFirst(t, bytesOf(t, prefix+op+rest), want, 1)
			}
		}
		for _, b := range []string{"ED 44", "ED 63 01 02", "DD 21 00 00", "FD 21 00 00", "DD CB 01 06", "FD CB 01 06", "DD DD DD DD", "FD FD FD FD", "FD CB", "DD 36"} {
			checkFirst(t, bytesOf(t, prefix+b), want, 1)
		}
	}
}

// truncated has beginnings of items, and the numbers of bytes that they need.
var truncated = []struct {
	raw  string
	need int
}{
	// Prefixes alone
	{"CB", 2}, {"ED", 2}, {"DD", 2}, {"FD", 2}, {"DD CB", 4}, {"FD CB", 4},
	// The displacement, but no opcode
	{"DD CB 05", 4}, {"DD CB 80", 4}, {"DD CB CB", 4}, {"DD CB DD", 4}, {"FD CB FF", 4}, {"FD CB ED", 4}, {"FD CB 00", 4},
	// n
	{"06", 2}, {"3E", 2}, {"36", 2}, {"C6", 2}, {"FE", 2}, {"D3", 2}, {"DB", 2}, {"DD 26", 3}, {"FD 2E", 3},
	// e
	{"10", 2}, {"18", 2}, {"20", 2}, {"38", 2},
	// w
	{"01", 3}, {"01 34", 3}, {"31", 3}, {"31 FF", 3}, {"22", 3}, {"3A 00", 3}, {"C3", 3}, {"CD 80", 3}, {"DC", 3}, {"DC CB", 3}, {"ED 43", 4}, {"ED 43 12", 4}, {"ED 7B", 4}, {"ED 7B ED", 4}, {"DD 21", 4}, {"DD 21 00", 4}, {"DD 2A DD", 4}, {"FD 22", 4}, {"FD 22 FF", 4},
	// w of an alias
	{"ED 63", 4}, {"ED 63 01", 4}, {"ED 6B", 4}, {"ED 6B FF", 4},
	// d
	{"DD 34", 3}, {"DD 7E", 3}, {"FD 77", 3}, {"FD BE", 3},
	// d and n
	{"DD 36", 4}, {"DD 36 80", 4}, {"FD 36", 4}, {"FD 36 7F", 4},
}

// P12.1 to P12.3: beginnings that end at each place where a byte can be
// missing.
func TestTruncated(t *testing.T) {
	for _, c := range truncated {
		checkFirst(t, bytesOf(t, c.raw), itemOf(t, c.raw, "truncated"), c.need)
	}
}

// P12.1 to P12.3: all beginnings of items that have an instruction.
func TestBeginnings(t *testing.T) {
	for _, c := range whole {
		if c.want == "hole" {
			continue
		}
		b := bytesOf(t, c.raw)
		toOpcode := 1
		switch {
		case b[0] == 0xDD && b[1] == 0xCB, b[0] == 0xFD && b[1] == 0xCB:
			toOpcode = 4
		case b[0] == 0xCB, b[0] == 0xDD, b[0] == 0xED, b[0] == 0xFD:
			toOpcode = 2
		}
		for n := 1; n < len(b); n++ {
			need := len(b)
			switch {
			case n == 1 && toOpcode > 1:
				need = 2 // it is not known yet whether CB follows
			case n < toOpcode:
				need = toOpcode
			}
			checkFirst(t, b[:n], api.Item{Kind: api.Truncated, Raw: b[:n]}, need)
		}
	}
}

// P12.1 to P12.3: no bytes.
func TestNothing(t *testing.T) {
	for _, b := range [][]byte{nil, {}, make([]byte, 0, 8)} {
		if item := decode.First(b); !isSame(item, api.Item{}) {
			t.Errorf("First of nothing is %v", item)
		}
		if n := decode.Need(b); n != 1 {
			t.Errorf("Need of nothing is %d", n)
		}
		if i, ok := decode.Instr(b...); ok || !instr.Same(i, api.Instr{}) {
			t.Errorf("Instr of nothing is %v, %t", i, ok)
		}
		for _, at := range []int{0, 1, -1, math.MaxInt, math.MinInt} {
			if item, n, ok := decode.At(b, at); !isSame(item, api.Item{}) || n != 0 || ok {
				t.Errorf("At of nothing, %d, is %v, %d, %t", at, item, n, ok)
			}
		}
	}
	if _, ok := decode.Instr(); ok {
		t.Error("Instr without bytes is one")
	}
}

// P12.1: each offset of some bytes, also those in the middle of items.
func TestAt(t *testing.T) {
	b := bytesOf(t, "00 DD 7E 05 DD ED 44 ED 00 DD CB FF 46 21 34 12 FD CB 80 47 36 DD 36 01")
	for at, c := range []struct{ raw, want string }{
		{"00", "NOP"}, {"DD 7E 05", "LD A,(IX+5)"}, {"7E", "LD A,(HL)"}, {"05", "DEC B"}, {"DD", "stray"}, {"ED 44", "NEG"}, {"44", "LD B,H"}, {"ED 00", "hole"}, {"00", "NOP"},
		{"DD CB FF 46", "BIT 0,(IX-1)"}, {"CB FF", "SET 7,A"}, {"FF", "RST 56"}, {"46", "LD B,(HL)"}, {"21 34 12", "LD HL,4660"}, {"34", "INC (HL)"}, {"12", "LD (DE),A"},
		{"FD CB 80 47", "BIT 0,(IY-128)*"}, {"CB 80", "RES 0,B"}, {"80", "ADD A,B"}, {"47", "LD B,A"}, {"36 DD", "LD (HL),221"}, {"DD 36 01", "truncated"}, {"36 01", "LD (HL),1"}, {"01", "truncated"},
	} {
		want := itemOf(t, c.raw, c.want)
		item, n, ok := decode.At(b, at)
		if !isSame(item, want) || n != at+len(want.Raw) || !ok {
			t.Errorf("At(%d) = %v, %d, %t, want %v", at, item, n, ok, want)
		}
	}
	for _, at := range []int{-1, -2, -len(b), -len(b) - 1, len(b), len(b) + 1, 2 * len(b), math.MaxInt, math.MaxInt - 1, math.MinInt, math.MinInt + 1, 1 << 32, -1 << 32, 256, 65536} {
		if item, n, ok := decode.At(b, at); !isSame(item, api.Item{}) || n != 0 || ok {
			t.Errorf("At(%d) = %v, %d, %t", at, item, n, ok)
		}
	}
}

// P12.2: instructions as a whole, and bytes that are none.
func TestInstr(t *testing.T) {
	for _, c := range []struct{ b, want string }{
		{"00", "NOP"}, {"3E 05", "LD A,5"}, {"21 34 12", "LD HL,4660"}, {"DD CB 01 A8", "RES 5,(IX+1),B"}, {"DD 36 FF 07", "LD (IX-1),7"}, {"D8", "RET C"}, {"CB 37", "SLL A"},
		// Aliases have an instruction as well.
		{"ED 63 01 02", "LD (513),HL"}, {"ED 7C", "NEG"}, {"FD CB FE 47", "BIT 0,(IY-2)"},
		// A byte too many
		{"00 00", ""}, {"3E 05 00", ""}, {"3E 05 3E", ""}, {"21 34 12 00", ""}, {"DD CB 01 A8 00", ""}, {"ED 63 01 02 03", ""}, {"ED 44 44", ""}, {"CB 37 00", ""}, {"DD E9 00", ""},
		// A byte too few
		{"3E", ""}, {"21 34", ""}, {"21", ""}, {"DD CB 01", ""}, {"DD CB", ""}, {"DD 36 FF", ""}, {"DD 36", ""}, {"ED", ""}, {"CB", ""}, {"ED 63 01", ""}, {"DD", ""},
		// Two instructions
		{"3E 05 3E 05", ""}, {"00 C9", ""},
		// Strays and holes
		{"DD 00", ""}, {"FD 3E 05", ""}, {"DD DD E9", ""}, {"FD EB", ""}, {"ED 00", ""}, {"ED FF", ""}, {"ED 00 00", ""}, {"DD ED 44", ""},
	} {
		want := api.Instr{}
		if c.want != "" {
			want = of(t, c.want)
		}
		if i, ok := decode.Instr(bytesOf(t, c.b)...); !instr.Same(i, want) || ok != (c.want != "") {
			t.Errorf("Instr(%s) = %v, %t, want %q", c.b, i, ok, c.want)
		}
	}
}

// P12.3: items of each kind.
func TestNeed(t *testing.T) {
	for _, c := range []struct {
		b    string
		need int
	}{
		{"", 1}, {"00", 1}, {"3E 05", 2}, {"3E 05 00", 2}, {"21 34 12 00 00", 3}, {"DD CB 05 06", 4}, {"DD CB 05 06 07", 4}, {"ED 6B 00 00 00", 4},
		{"DD 00", 1}, {"DD DD 21", 1}, {"FD ED", 1}, {"DD 00 00 00 00", 1}, {"ED 00", 2}, {"ED 00 00 00", 2}, {"ED FF", 2},
		{"DD CB 05", 4}, {"DD 36", 4}, {"DD 36 00", 4}, {"21", 3}, {"21 00", 3}, {"10", 2}, {"ED 43", 4}, {"ED", 2}, {"FD", 2}, {"FD 7E", 3},
	} {
		if n := decode.Need(bytesOf(t, c.b)); n != c.need {
			t.Errorf("Need(%s) = %d, want %d", c.b, n, c.need)
		}
	}
}

// P12.4: all kinds, and other numbers.
func TestKind(t *testing.T) {
	for kind, want := range map[int]string{
		1: "code", 2: "stray", 3: "hole", 4: "truncated", 0: "", 5: "", 6: "", -1: "", -2: "", -4: "", 257: "", 260: "", 1<<32 + 1: "", math.MaxInt: "", math.MinInt: "",
	} {
		if s := decode.Kind(kind); s != want {
			t.Errorf("Kind(%d) = %q, want %q", kind, s, want)
		}
	}
}

// P12.4: items that differ in one field only.
func TestSame(t *testing.T) {
	l := []api.Item{
		{},
		{Kind: api.Code1}, {Kind: api.Stray}, {Kind: 99}, {Kind: -1}, {Alias: true},
		{Raw: []byte{0}}, {Raw: []byte{0, 0}}, {Raw: []byte{1}}, {Raw: []byte{0, 1}},
		{Instr: of(t, "NOP")}, {Instr: of(t, "nop")}, {Instr: of(t, "LD A,5")},
	}
	base := itemOf(t, "DD 36 05 07", "LD (IX+5),7")
	change := func(change func(item *api.Item)) {
		item := api.Item{Kind: base.Kind, Raw: slices.Clone(base.Raw), Instr: api.Instr{Op: base.Instr.Op, Args: slices.Clone(base.Instr.Args)}, Alias: base.Alias}
		change(&item)
		l = append(l, item)
	}
	change(func(item *api.Item) {})
	change(func(item *api.Item) { item.Kind = api.Truncated })
	change(func(item *api.Item) { item.Alias = true })
	for k := range base.Raw {
		change(func(item *api.Item) { item.Raw[k]++ })
		change(func(item *api.Item) { item.Raw = item.Raw[:k] })
	}
	change(func(item *api.Item) { item.Raw = append(item.Raw, 0) })
	change(func(item *api.Item) { item.Instr.Op = "ADD" })
	for k := range base.Instr.Args {
		change(func(item *api.Item) { item.Instr.Args[k].N++ })
		change(func(item *api.Item) { item.Instr.Args[k].Reg++ })
		change(func(item *api.Item) { item.Instr.Args[k].Kind++ })
		change(func(item *api.Item) { item.Instr.Args = item.Instr.Args[:k] })
	}
	change(func(item *api.Item) { item.Instr.Args = append(item.Instr.Args, api.Operand{}) })
	for j, a := range l {
		for k, b := range l {
			if decode.Same(a, b) != (j == k) {
				t.Errorf("Same(%v, %v) = %t", a, b, j != k)
			}
		}
	}
}

// P12.4 and rule 4: whether an empty slice is nil makes no difference, nor do
// the bytes behind its end; and items of equal fields are the same.
func TestSameSlices(t *testing.T) {
	empty := api.Item{Kind: api.Code1, Raw: []byte{}, Instr: api.Instr{Op: "NOP", Args: []api.Operand{}}}
	if !decode.Same(empty, api.Item{Kind: api.Code1, Instr: api.Instr{Op: "NOP"}}) || !decode.Same(api.Item{Kind: api.Code1, Instr: api.Instr{Op: "NOP"}}, empty) {
		t.Error("empty slices make items different")
	}
	if !decode.Same(api.Item{Raw: []byte{1, 2, 3}[:2]}, api.Item{Raw: []byte{1, 2, 4}[:2]}) {
		t.Error("bytes behind the end make items different")
	}
	for _, c := range whole {
		a, b := itemOf(t, c.raw, c.want), decode.First(bytesOf(t, c.raw+"00"))
		if !decode.Same(a, b) || !decode.Same(b, a) || !decode.Same(b, b) {
			t.Errorf("%v and %v are not the same", a, b)
		}
	}
	// The instructions are the same, the bytes are not.
	if decode.Same(decode.First(bytesOf(t, "ED 44")), decode.First(bytesOf(t, "ED 4C"))) || decode.Same(decode.First(bytesOf(t, "ED 54")), decode.First(bytesOf(t, "ED 4C"))) {
		t.Error("aliases are the same")
	}
}

// Examples of the chapter and of the document.
func TestExamples(t *testing.T) {
	checkFirst(t, bytesOf(t, "DD 00"), itemOf(t, "DD", "stray"), 1)
	checkFirst(t, bytesOf(t, "DD CB 05"), itemOf(t, "DD CB 05", "truncated"), 4)
	b := bytesOf(t, "00 DD 00 ED")
	for at, c := range []struct{ raw, want string }{{"00", "NOP"}, {"DD", "stray"}, {"00", "NOP"}, {"ED", "truncated"}} {
		if item, n, ok := decode.At(b, at); !isSame(item, itemOf(t, c.raw, c.want)) || n != at+1 || !ok {
			t.Errorf("At(%d) = %v, %d, %t", at, item, n, ok)
		}
	}
}

// Rule 4: nothing behind the end of a slice is read.
func TestBytesBehindEnd(t *testing.T) {
	for _, c := range whole {
		b := bytesOf(t, c.raw+"01 02 03 04")
		size := len(b) - 4
		checkFirst(t, b[:size], itemOf(t, c.raw, c.want), size)
		if size < 2 {
			continue
		}
		if item := decode.First(b[:size-1]); item.Kind != api.Truncated || !bytes.Equal(item.Raw, b[:size-1]) {
			t.Errorf("First(%s) = %v, with more behind the end", hex(b[:size-1]), item)
		}
		if item, n, ok := decode.At(b[:size], size-1); n != size || !ok || !bytes.Equal(item.Raw, b[size-1:size]) {
			t.Errorf("At(%s, %d) = %v, %d, %t, with more behind the end", hex(b[:size]), size-1, item, n, ok)
		}
	}
}

// spoil changes all that can be changed of an item.
func spoil(item api.Item) {
	raw := item.Raw[:cap(item.Raw)]
	for k := range raw {
		raw[k] ^= 0xFF
	}
	args := item.Instr.Args[:cap(item.Instr.Args)]
	for k := range args {
		args[k] = api.Operand{Kind: 99, Reg: 98, N: 97}
	}
}

// Rule 4: results are new memory, and arguments are not changed.
func TestResultsAreNew(t *testing.T) {
	inputs := []string{"DD 00", "FD DD", "ED", "DD CB", "DD CB 05", "DD 36 05", "21 00"}
	for _, c := range whole {
		inputs = append(inputs, c.raw)
	}
	for _, text := range inputs {
		room := bytesOf(t, text+"01 02 03")
		b := room[:len(room)-3]
		before := slices.Clone(room)
		want := decode.First(slices.Clone(b))
		first := decode.First(b)
		at, _, _ := decode.At(b, 0)
		i, ok := decode.Instr(b...)
		decode.Need(b)
		decode.Same(first, at)
		if !bytes.Equal(room, before) {
			t.Errorf("%s has changed: %s", text, hex(room))
		}
		for k := range room {
			room[k] ^= 0x55
		}
		if !isSame(first, want) || !isSame(at, want) || ok && !instr.Same(i, want.Instr) {
			t.Errorf("items of %s have changed with the bytes: %v, %v, %v", text, first, at, i)
		}
		copy(room, before)
		spoil(first)
		if !bytes.Equal(room, before) || !isSame(at, want) || ok && !instr.Same(i, want.Instr) {
			t.Errorf("results of %s share memory: %s, %v, %v", text, hex(room), at, i)
		}
		spoil(at)
		spoil(api.Item{Instr: i})
		if again := decode.First(b); !isSame(again, want) || !bytes.Equal(room, before) {
			t.Errorf("the item of %s has changed: %v, want %v", text, again, want)
		}
	}
}

// P1: very many bytes, of which only the first ones are read.
func TestManyBytes(t *testing.T) {
	for _, c := range []struct {
		repeated byte
		want     api.Item
	}{
		{0x00, itemOf(t, "00", "NOP")}, {0xDD, itemOf(t, "DD", "stray")}, {0xFD, itemOf(t, "FD", "stray")}, {0xED, itemOf(t, "ED ED", "hole")},
		{0xCB, itemOf(t, "CB CB", "SET 1,E")}, {0x21, itemOf(t, "21 21 21", "LD HL,8481")}, {0xFF, itemOf(t, "FF", "RST 56")},
	} {
		b := bytes.Repeat([]byte{c.repeated}, 1<<20)
		checkFirst(t, b, c.want, len(c.want.Raw))
		if item, n, ok := decode.At(b, len(b)-8); !isSame(item, c.want) || n != len(b)-8+len(c.want.Raw) || !ok {
			t.Errorf("At the end of many %02X: %v, %d, %t", c.repeated, item, n, ok)
		}
	}
}

// Rule 6: the functions may be called concurrently.
func TestConcurrently(t *testing.T) {
	var wants []api.Item
	for _, c := range whole {
		wants = append(wants, itemOf(t, c.raw, c.want))
	}
	for _, c := range truncated {
		wants = append(wants, itemOf(t, c.raw, "truncated"))
	}
	var wg sync.WaitGroup
	for range 8 {
		wg.Go(func() {
			for _, want := range wants {
				item := decode.First(want.Raw)
				i, ok := decode.Instr(want.Raw...)
				if !decode.Same(item, want) || ok != (want.Kind == api.Code1) || !instr.Same(i, want.Instr) || decode.Need(want.Raw) < len(want.Raw) {
					t.Errorf("First(%s) = %v, want %v", hex(want.Raw), item, want)
				}
			}
		})
	}
	wg.Wait()
}
