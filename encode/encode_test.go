package encode_test

import (
	"fmt"
	"math"
	"slices"
	"strconv"
	"strings"
	"sync"
	"testing"

	"breadboard/api"
	"breadboard/encode"
	"breadboard/instr"
	"breadboard/operand"
	"breadboard/table"
)

// of returns the instruction that a text stands for. Numbers are decimal, and
// an e in front of one makes it a distance. C is a condition where RET, JR, JP
// or CALL can have one.
func of(t *testing.T, text string) api.Instr {
	t.Helper()
	op, args, hasArgs := strings.Cut(text, " ")
	i := api.Instr{Op: op}
	if !hasArgs {
		return i
	}
	for k, word := range strings.Split(args, ",") {
		isCondition := k == 0 && (op == "RET" || op == "JR" || op == "JP" || op == "CALL")
		i.Args = append(i.Args, operandOf(t, word, isCondition))
	}
	return i
}

func operandOf(t *testing.T, word string, isCondition bool) api.Operand {
	t.Helper()
	if n, err := strconv.Atoi(word); err == nil {
		return api.Operand{Kind: api.Imm, N: n}
	}
	if rest, ok := strings.CutPrefix(word, "e"); ok {
		n, err := strconv.Atoi(rest)
		if err != nil {
			t.Fatal("no distance:", word)
		}
		return api.Operand{Kind: api.Rel, N: n}
	}
	if inner, ok := strings.CutPrefix(word, "("); ok {
		return memoryOf(t, strings.TrimSuffix(inner, ")"))
	}
	for _, o := range operand.Named(word) {
		if len(operand.Named(word)) == 1 || (o.Kind == api.Cond) == isCondition {
			return o
		}
	}
	t.Fatal("no operand:", word)
	return api.Operand{}
}

// memoryOf returns the operand that has a text in brackets.
func memoryOf(t *testing.T, inner string) api.Operand {
	t.Helper()
	if n, err := strconv.Atoi(inner); err == nil {
		return api.Operand{Kind: api.Mem, N: n}
	}
	if inner == "C" {
		return api.Operand{Kind: api.Ind, Reg: api.IndC}
	}
	if len(inner) > 2 {
		n, err := strconv.Atoi(inner[2:])
		if err != nil {
			t.Fatal("no displacement:", inner)
		}
		return api.Operand{Kind: api.Idx, Reg: operand.Named(inner[:2])[0].Reg, N: n}
	}
	return api.Operand{Kind: api.Ind, Reg: operand.Named(inner)[0].Reg}
}

func at(t *testing.T, page int, op byte) table.Entry {
	t.Helper()
	e, kind := table.At(page, op)
	if kind != table.Legal {
		t.Fatalf("page %d has no entry of %02X", page, op)
	}
	return e
}

// hex returns bytes as texts of the tests have them.
func hex(b []byte) string { return fmt.Sprintf("% X", b) }

// hexes returns the texts of several bytes with commas between them.
func hexes(l [][]byte) string {
	var s []string
	for _, b := range l {
		s = append(s, hex(b))
	}
	return strings.Join(s, ",")
}

// stopIfFailed ends a test of very many inputs at the first that fails, so
// that its report stays short.
func stopIfFailed(t *testing.T) {
	t.Helper()
	if t.Failed() {
		t.FailNow()
	}
}

// encodings has instructions with their encodings.
var encodings = []struct{ text, want string }{
	// Main, without numbers that follow
	{"NOP", "00"}, {"LD (BC),A", "02"}, {"INC BC", "03"}, {"INC B", "04"}, {"DEC (HL)", "35"}, {"RLCA", "07"}, {"EX AF,AF'", "08"}, {"ADD HL,BC", "09"}, {"LD A,(DE)", "1A"}, {"DEC SP", "3B"}, {"HALT", "76"}, {"LD A,B", "78"}, {"LD (HL),A", "77"}, {"LD H,(HL)", "66"}, {"LD B,C", "41"},
	{"ADD A,B", "80"}, {"ADC A,(HL)", "8E"}, {"SUB L", "95"}, {"SBC A,A", "9F"}, {"AND H", "A4"}, {"XOR A", "AF"}, {"OR (HL)", "B6"}, {"CP E", "BB"}, {"RET", "C9"}, {"RET NZ", "C0"}, {"RET C", "D8"}, {"POP AF", "F1"}, {"PUSH BC", "C5"}, {"EXX", "D9"}, {"JP (HL)", "E9"}, {"LD SP,HL", "F9"}, {"EX (SP),HL", "E3"}, {"EX DE,HL", "EB"}, {"DI", "F3"}, {"EI", "FB"}, {"RST 0", "C7"}, {"RST 24", "DF"}, {"RST 56", "FF"},
	// Main, with one byte
	{"LD B,18", "06 12"}, {"LD A,0", "3E 00"}, {"LD A,255", "3E FF"}, {"LD (HL),128", "36 80"}, {"ADD A,7", "C6 07"}, {"SUB 127", "D6 7F"}, {"CP 255", "FE FF"}, {"OUT (254),A", "D3 FE"}, {"OUT (0),A", "D3 00"}, {"IN A,(255)", "DB FF"}, {"IN A,(1)", "DB 01"},
	// Main, with a distance
	{"DJNZ e-2", "10 FE"}, {"JR e0", "18 00"}, {"JR e127", "18 7F"}, {"JR e-128", "18 80"}, {"JR NZ,e-128", "20 80"}, {"JR Z,e127", "28 7F"}, {"JR NC,e1", "30 01"}, {"JR C,e-1", "38 FF"},
	// Main, with two bytes
	{"LD BC,4660", "01 34 12"}, {"LD DE,0", "11 00 00"}, {"LD SP,65280", "31 00 FF"}, {"LD HL,65535", "21 FF FF"}, {"LD (4660),HL", "22 34 12"}, {"LD HL,(255)", "2A FF 00"}, {"LD (65535),A", "32 FF FF"}, {"LD A,(256)", "3A 00 01"}, {"JP 258", "C3 02 01"}, {"JP M,65534", "FA FE FF"}, {"CALL 32768", "CD 00 80"}, {"CALL NC,1", "D4 01 00"}, {"CALL C,32767", "DC FF 7F"},
	// CB
	{"RLC B", "CB 00"}, {"SLL (HL)", "CB 36"}, {"SRL A", "CB 3F"}, {"BIT 0,B", "CB 40"}, {"BIT 7,(HL)", "CB 7E"}, {"RES 0,A", "CB 87"}, {"SET 5,E", "CB EB"},
	// ED
	{"IN (C)", "ED 70"}, {"IN A,(C)", "ED 78"}, {"OUT (C),0", "ED 71"}, {"OUT (C),E", "ED 59"}, {"SBC HL,SP", "ED 72"}, {"ADC HL,DE", "ED 5A"}, {"NEG", "ED 44"}, {"RETN", "ED 45"}, {"RETI", "ED 4D"}, {"IM 0", "ED 46"}, {"IM 1", "ED 56"}, {"IM 2", "ED 5E"}, {"LD I,A", "ED 47"}, {"LD A,R", "ED 5F"}, {"RRD", "ED 67"}, {"RLD", "ED 6F"}, {"LDI", "ED A0"}, {"CPIR", "ED B1"}, {"OTDR", "ED BB"},
	{"LD (4660),BC", "ED 43 34 12"}, {"LD SP,(65534)", "ED 7B FE FF"}, {"LD DE,(0)", "ED 5B 00 00"}, {"LD (65535),SP", "ED 73 FF FF"},
	// DD
	{"LD IX,258", "DD 21 02 01"}, {"LD (513),IX", "DD 22 01 02"}, {"LD IX,(65535)", "DD 2A FF FF"}, {"ADD IX,SP", "DD 39"}, {"INC IX", "DD 23"}, {"INC IXH", "DD 24"}, {"LD IXL,200", "DD 2E C8"}, {"LD IXH,IXL", "DD 65"}, {"ADD A,IXH", "DD 84"}, {"JP (IX)", "DD E9"}, {"EX (SP),IX", "DD E3"}, {"PUSH IX", "DD E5"}, {"LD SP,IX", "DD F9"},
	{"INC (IX+0)", "DD 34 00"}, {"LD A,(IX+5)", "DD 7E 05"}, {"LD (IX-2),L", "DD 75 FE"}, {"LD H,(IX-128)", "DD 66 80"}, {"CP (IX+127)", "DD BE 7F"}, {"LD (IX+1),2", "DD 36 01 02"}, {"LD (IX-128),255", "DD 36 80 FF"}, {"LD (IX+127),0", "DD 36 7F 00"}, {"LD (IX-1),7", "DD 36 FF 07"},
	// FD
	{"LD IY,65535", "FD 21 FF FF"}, {"LD (4660),IY", "FD 22 34 12"}, {"LD IY,(1)", "FD 2A 01 00"}, {"ADD IY,IY", "FD 29"}, {"DEC IYL", "FD 2D"}, {"LD IYH,1", "FD 26 01"}, {"CP IYL", "FD BD"}, {"JP (IY)", "FD E9"}, {"POP IY", "FD E1"}, {"DEC (IY-1)", "FD 35 FF"}, {"LD (IY+127),A", "FD 77 7F"}, {"SBC A,(IY-128)", "FD 9E 80"}, {"LD (IY-128),128", "FD 36 80 80"}, {"LD (IY+3),4", "FD 36 03 04"},
	// DDCB
	{"RLC (IX+1)", "DD CB 01 06"}, {"RLC (IX+1),B", "DD CB 01 00"}, {"SRL (IX-1),A", "DD CB FF 3F"}, {"BIT 5,(IX+1)", "DD CB 01 6E"}, {"RES 5,(IX+1)", "DD CB 01 AE"}, {"RES 5,(IX+1),B", "DD CB 01 A8"}, {"SET 7,(IX-128)", "DD CB 80 FE"}, {"SET 0,(IX+127),L", "DD CB 7F C5"},
	// FDCB
	{"SLL (IY-1)", "FD CB FF 36"}, {"SLL (IY-1),H", "FD CB FF 34"}, {"BIT 0,(IY+127)", "FD CB 7F 46"}, {"RES 7,(IY-128),E", "FD CB 80 BB"}, {"SET 7,(IY+0)", "FD CB 00 FE"}, {"SET 7,(IY+127),A", "FD CB 7F FF"}, {"RR (IY+64),C", "FD CB 40 19"},
	// Negative numbers
	{"LD B,-1", "06 FF"}, {"LD (HL),-128", "36 80"}, {"ADD A,-2", "C6 FE"}, {"LD HL,-1", "21 FF FF"}, {"LD SP,-32768", "31 00 80"}, {"LD IX,-2", "DD 21 FE FF"}, {"LD IYL,-3", "FD 2E FD"}, {"JP -1", "C3 FF FF"}, {"CALL Z,-256", "CC 00 FF"}, {"LD (IX-1),-1", "DD 36 FF FF"}, {"LD (IY+1),-128", "FD 36 01 80"},
	// Synonyms
	{"SUB A,B", "90"}, {"AND A,A", "A7"}, {"XOR A,(HL)", "AE"}, {"OR A,-128", "F6 80"}, {"CP A,(IX+2)", "DD BE 02"}, {"CP A,IYH", "FD BC"}, {"ADD B", "80"}, {"ADC (IY-2)", "FD 8E FE"}, {"SBC -1", "DE FF"}, {"ADD IXL", "DD 85"}, {"EX HL,DE", "EB"},
}

// P11.1: single instructions of every page, with each letter of Extra.
func TestEncodings(t *testing.T) {
	for _, c := range encodings {
		i := of(t, c.text)
		b, code := encode.Encode(i)
		if hex(b) != c.want || code != api.OK {
			t.Errorf("Encode(%s) = %s, %v, want %s", c.text, hex(b), code, c.want)
		}
		want := (len(c.want) + 1) / 3
		if n, code := encode.Size(i); n != want || code != api.OK {
			t.Errorf("Size(%s) = %d, %v, want %d", c.text, n, code, want)
		}
	}
}

// refused has instructions without an encoding.
var refused = []struct {
	text string
	code api.Code
}{
	{"FOO", api.ErrName}, {"nop", api.ErrName}, {"Ld A,B", api.ErrName}, {"", api.ErrName}, {"DEFB 1", api.ErrName}, {"FOO 65536", api.ErrName}, {"FOO A,A,A,A", api.ErrName},
	{"LD A,A,A,A", api.ErrShape}, {"SET 1,(IX+1),B,B", api.ErrShape}, {"LD A,A,A,65536", api.ErrShape},
	// Operands that are not valid
	{"LD A,(IX+128)", api.ErrRange}, {"LD A,(IY-129)", api.ErrRange}, {"LD HL,65536", api.ErrRange}, {"LD HL,-32769", api.ErrRange}, {"LD A,(65536)", api.ErrRange}, {"LD A,(-1)", api.ErrRange}, {"JR e128", api.ErrRange}, {"JR NZ,e-129", api.ErrRange}, {"DJNZ e128", api.ErrRange}, {"NOP 65536", api.ErrRange}, {"RES 5,(IX+128),B", api.ErrRange},
	// The shape of an entry
	{"LD B,256", api.ErrRange}, {"LD B,-129", api.ErrRange}, {"SUB A,256", api.ErrRange}, {"ADD 300", api.ErrRange}, {"LD (IX+1),256", api.ErrRange}, {"LD IXH,-129", api.ErrRange}, {"OUT (256),A", api.ErrRange}, {"IN A,(65535)", api.ErrRange}, {"BIT 8,A", api.ErrRange}, {"RES -1,(IX+1)", api.ErrRange}, {"RST 1", api.ErrRange}, {"RST 64", api.ErrRange}, {"IM 3", api.ErrRange}, {"OUT (C),1", api.ErrRange},
	// No shape of an entry
	{"NOP A", api.ErrShape}, {"LD", api.ErrShape}, {"LD A", api.ErrShape}, {"LD (HL),(HL)", api.ErrShape}, {"LD IXH,IYL", api.ErrShape}, {"LD L,IXL", api.ErrShape}, {"JP (IX+0)", api.ErrShape}, {"ADD IX,HL", api.ErrShape}, {"EX DE,IX", api.ErrShape}, {"JR PO,e0", api.ErrShape}, {"JR 5", api.ErrShape}, {"BIT 5,(IX+1),B", api.ErrShape}, {"RES 5,(HL),B", api.ErrShape}, {"IN (C),A", api.ErrShape}, {"OUT (5),B", api.ErrShape},
}

// P11.1 and P11.4: instructions without an encoding, with each code.
func TestRefused(t *testing.T) {
	for _, c := range refused {
		i := of(t, c.text)
		if b, code := encode.Encode(i); len(b) != 0 || code != c.code {
			t.Errorf("Encode(%s) = %s, %v, want %v", c.text, hex(b), code, c.code)
		}
		if n, code := encode.Size(i); n != 0 || code != c.code {
			t.Errorf("Size(%s) = %d, %v, want %v", c.text, n, code, c.code)
		}
		if l := encode.Forms(i); len(l) != 0 {
			t.Errorf("Forms(%s) = %s", c.text, hexes(l))
		}
	}
}

// P11.2: no instructions, one and several.
func TestAll(t *testing.T) {
	for _, c := range []struct {
		texts []string
		want  string
	}{
		{nil, ""}, {[]string{"NOP"}, "00"}, {[]string{"LD (IX-1),7"}, "DD 36 FF 07"}, {[]string{"NOP", "NOP", "NOP"}, "00 00 00"},
		{[]string{"LD A,5", "RES 5,(IX+1),B", "NEG", "RET"}, "3E 05 DD CB 01 A8 ED 44 C9"}, {[]string{"RET", "NEG", "RES 5,(IX+1),B", "LD A,5"}, "C9 ED 44 DD CB 01 A8 3E 05"},
	} {
		var l []api.Instr
		for _, text := range c.texts {
			l = append(l, of(t, text))
		}
		if b, n, code := encode.All(l...); hex(b) != c.want || n != len(l) || code != api.OK {
			t.Errorf("All(%q) = %s, %d, %v, want %s", c.texts, hex(b), n, code, c.want)
		}
	}
	var l []api.Instr
	var want []string
	for _, c := range encodings {
		l, want = append(l, of(t, c.text)), append(want, c.want)
	}
	if b, n, code := encode.All(l...); hex(b) != strings.Join(want, " ") || n != len(l) || code != api.OK {
		t.Errorf("All of all encodings = %s, %d, %v", hex(b), n, code)
	}
}

// P11.2: an instruction without an encoding at each place, and two of them.
func TestAllFails(t *testing.T) {
	good := []api.Instr{of(t, "LD A,5"), of(t, "NOP"), of(t, "SET 0,(IY+2)"), of(t, "LD HL,300"), of(t, "RET")}
	for _, c := range refused {
		bad := of(t, c.text)
		for k := range good {
			l := slices.Clone(good)
			l[k] = bad
			if b, n, code := encode.All(l...); len(b) != 0 || n != k || code != c.code {
				t.Errorf("All with %s at %d = %s, %d, %v, want %v", c.text, k, hex(b), n, code, c.code)
			}
			if b, n, code := encode.All(l[:k+1]...); len(b) != 0 || n != k || code != c.code {
				t.Errorf("All with %s at the end, %d = %s, %d, %v, want %v", c.text, k, hex(b), n, code, c.code)
			}
		}
		if b, n, code := encode.All(bad); len(b) != 0 || n != 0 || code != c.code {
			t.Errorf("All(%s) = %s, %d, %v, want %v", c.text, hex(b), n, code, c.code)
		}
		first, code := of(t, "IM 3"), api.ErrRange
		if c.code == api.ErrRange {
			first, code = of(t, "NOP A"), api.ErrShape
		}
		if b, n, got := encode.All(good[0], first, bad, good[1]); len(b) != 0 || n != 1 || got != code {
			t.Errorf("All with %v in front of %s = %s, %d, %v, want %v", first, c.text, hex(b), n, got, code)
		}
		if b, n, got := encode.All(good[0], good[1], bad, first); len(b) != 0 || n != 2 || got != c.code {
			t.Errorf("All with %v behind %s = %s, %d, %v, want %v", first, c.text, hex(b), n, got, c.code)
		}
	}
}

// P11.3: entries of every page with each letter of Extra, with numbers at and
// beyond the ends of their ranges, and with numbers that no operand has.
func TestBytes(t *testing.T) {
	for _, c := range []struct {
		page int
		op   byte
		d, n int
		want string // nothing, if there is no such instruction
	}{
		// No letter
		{table.Main, 0x00, 0, 0, "00"}, {table.Main, 0x00, 1, 0, ""}, {table.Main, 0x00, 0, 1, ""}, {table.Main, 0x00, -1, -1, ""}, {table.Main, 0xFF, 0, 0, "FF"}, {table.Main, 0xFF, 0, 56, ""}, {table.CB, 0x6E, 0, 0, "CB 6E"}, {table.CB, 0x6E, 0, 5, ""}, {table.CB, 0x6E, 5, 0, ""}, {table.ED, 0x7C, 0, 0, "ED 7C"}, {table.ED, 0x7C, 1, 0, ""}, {table.ED, 0x71, 0, 0, "ED 71"}, {table.ED, 0x71, 0, 1, ""}, {table.DD, 0xE9, 0, 0, "DD E9"}, {table.DD, 0xE9, 1, 0, ""}, {table.FD, 0x65, 0, 0, "FD 65"}, {table.FD, 0x65, 0, 1, ""},
		// d
		{table.DD, 0x7E, 5, 0, "DD 7E 05"}, {table.DD, 0x7E, -128, 0, "DD 7E 80"}, {table.FD, 0x7E, 127, 0, "FD 7E 7F"}, {table.FD, 0x34, -1, 0, "FD 34 FF"}, {table.DD, 0x7E, -129, 0, ""}, {table.DD, 0x7E, 128, 0, ""}, {table.DD, 0x7E, 5, 1, ""}, {table.DD, 0x7E, 0, -1, ""}, {table.DD, 0x7E, 255, 0, ""},
		{table.DDCB, 0xA8, 1, 0, "DD CB 01 A8"}, {table.DDCB, 0xA8, 1, 5, ""}, {table.DDCB, 0x06, 128, 0, ""}, {table.DDCB, 0x06, -128, 0, "DD CB 80 06"}, {table.FDCB, 0x6E, -1, 0, "FD CB FF 6E"}, {table.FDCB, 0x69, 127, 0, "FD CB 7F 69"}, {table.FDCB, 0x6E, 0, 5, ""}, {table.FDCB, 0x6E, -129, 0, ""},
		// e
		{table.Main, 0x18, 0, -128, "18 80"}, {table.Main, 0x38, 0, 127, "38 7F"}, {table.Main, 0x10, 0, -2, "10 FE"}, {table.Main, 0x10, 0, 128, ""}, {table.Main, 0x10, 0, -129, ""}, {table.Main, 0x10, 1, 0, ""}, {table.Main, 0x18, -1, 5, ""},
		// n
		{table.Main, 0x3E, 0, 255, "3E FF"}, {table.Main, 0x3E, 0, 0, "3E 00"}, {table.Main, 0x3E, 0, 256, ""}, {table.Main, 0x3E, 0, -1, ""}, {table.Main, 0x3E, 1, 5, ""}, {table.Main, 0xD3, 0, 254, "D3 FE"}, {table.Main, 0xDB, 0, 256, ""}, {table.Main, 0xDB, 0, -1, ""}, {table.DD, 0x26, 0, 9, "DD 26 09"}, {table.DD, 0x26, 9, 0, ""},
		// w
		{table.Main, 0x21, 0, 65535, "21 FF FF"}, {table.Main, 0x21, 0, 65536, ""}, {table.Main, 0x21, 0, -1, ""}, {table.Main, 0x3A, 0, 258, "3A 02 01"}, {table.Main, 0x3A, 0, 65536, ""}, {table.Main, 0xDC, 0, 256, "DC 00 01"}, {table.Main, 0xC3, 3, 256, ""}, {table.ED, 0x63, 0, 500, "ED 63 F4 01"}, {table.ED, 0x4B, 0, 255, "ED 4B FF 00"}, {table.DD, 0x22, 0, 500, "DD 22 F4 01"}, {table.DD, 0x22, 1, 500, ""}, {table.FD, 0x21, 0, 0, "FD 21 00 00"},
		// d and n
		{table.FD, 0x36, -128, 255, "FD 36 80 FF"}, {table.DD, 0x36, 127, 0, "DD 36 7F 00"}, {table.DD, 0x36, 1, 2, "DD 36 01 02"}, {table.DD, 0x36, 128, 0, ""}, {table.DD, 0x36, 0, 256, ""}, {table.DD, 0x36, -129, 256, ""}, {table.DD, 0x36, 0, -1, ""}, {table.DD, 0x36, 255, 127, ""},
		{table.DD, 0x36, math.MinInt, 0, ""}, {table.DD, 0x36, 0, math.MaxInt, ""}, {table.Main, 0x00, math.MaxInt, math.MinInt, ""}, {table.Main, 0x21, 0, math.MinInt, ""},
	} {
		b, ok := encode.Bytes(at(t, c.page, c.op), c.d, c.n)
		if ok != (c.want != "") || hex(b) != c.want {
			t.Errorf("Bytes(page %d, %02X, %d, %d) = %s, %t, want %q", c.page, c.op, c.d, c.n, hex(b), ok, c.want)
		}
	}
}

// P11.4: instructions with one entry, and with several.
func TestForms(t *testing.T) {
	for _, c := range []struct{ text, want string }{
		{"NOP", "00"}, {"LD A,-1", "3E FF"}, {"SUB A,5", "D6 05"}, {"JR C,e-5", "38 FB"}, {"LD BC,(513)", "ED 4B 01 02"}, {"LD (IX-1),7", "DD 36 FF 07"}, {"RES 5,(IX+1)", "DD CB 01 AE"}, {"RES 5,(IX+1),B", "DD CB 01 A8"}, {"EX HL,DE", "EB"}, {"BIT 5,(HL)", "CB 6E"},
		// The aliases of ED
		{"LD HL,(258)", "2A 02 01,ED 6B 02 01"}, {"LD (65534),HL", "22 FE FF,ED 63 FE FF"}, {"NEG", "ED 44,ED 4C,ED 54,ED 5C,ED 64,ED 6C,ED 74,ED 7C"}, {"RETN", "ED 45,ED 55,ED 5D,ED 65,ED 6D,ED 75,ED 7D"}, {"RETI", "ED 4D"},
		{"IM 0", "ED 46,ED 4E,ED 66,ED 6E"}, {"IM 1", "ED 56,ED 76"}, {"IM 2", "ED 5E,ED 7E"},
		// The copies in DDCB and FDCB
		{"BIT 5,(IX+1)", "DD CB 01 68,DD CB 01 69,DD CB 01 6A,DD CB 01 6B,DD CB 01 6C,DD CB 01 6D,DD CB 01 6E,DD CB 01 6F"},
		{"BIT 0,(IY-1)", "FD CB FF 40,FD CB FF 41,FD CB FF 42,FD CB FF 43,FD CB FF 44,FD CB FF 45,FD CB FF 46,FD CB FF 47"},
	} {
		if l := encode.Forms(of(t, c.text)); hexes(l) != c.want {
			t.Errorf("Forms(%s) = %s, want %s", c.text, hexes(l), c.want)
		}
	}
}

// P11.5: jumps at both ends of the distance, and of the address space.
func TestJump(t *testing.T) {
	for _, c := range []struct {
		from, to, n int
		ok          bool
	}{
		{100, 102, 0, true}, {100, 100, -2, true}, {100, 101, -1, true}, {100, 229, 127, true}, {100, 230, 0, false}, {200, 74, -128, true}, {200, 73, 0, false}, {32768, 32768, -2, true},
		// Near 0
		{0, 0, -2, true}, {0, 1, -1, true}, {0, 2, 0, true}, {0, 129, 127, true}, {0, 130, 0, false}, {1, 130, 127, true}, {0, -1, -3, true}, {0, -126, -128, true}, {0, -127, 0, false}, {5, -27, -34, true}, {5, -121, -128, true}, {5, -122, 0, false}, {126, 0, -128, true}, {127, 0, 0, false},
		// Near 65535
		{65535, 65535, -2, true}, {65535, 65536, -1, true}, {65535, 65537, 0, true}, {65535, 65664, 127, true}, {65535, 65665, 0, false}, {65535, 65409, -128, true}, {65535, 65408, 0, false}, {65534, 65535, -1, true}, {65406, 65535, 127, true}, {65405, 65535, 0, false},
		// Addresses are not counted from the other end of the space.
		{0, 65535, 0, false}, {65535, 0, 0, false}, {65535, 1, 0, false}, {0, 65538, 0, false}, {100, 100 + 65536, 0, false}, {100, 100 - 65536, 0, false},
		// From outside
		{-1, 1, 0, false}, {-1, 0, 0, false}, {-2, 0, 0, false}, {65536, 65538, 0, false}, {65536, 65536, 0, false}, {65536, 65535, 0, false}, {65537, 65535, 0, false}, {65536 + 100, 102, 0, false}, {-65536, 2, 0, false},
		// The ends of int, where differences exceed them
		{0, math.MaxInt, 0, false}, {0, math.MinInt, 0, false}, {65535, math.MaxInt, 0, false}, {65535, math.MinInt, 0, false}, {math.MaxInt, 0, 0, false}, {math.MinInt, 0, 0, false}, {math.MaxInt, math.MaxInt, 0, false}, {math.MinInt, math.MinInt, 0, false}, {math.MaxInt, math.MinInt, 0, false}, {math.MinInt, math.MaxInt, 0, false}, {math.MaxInt, math.MinInt + 1, 0, false}, {math.MinInt, math.MinInt + 2, 0, false}, {math.MaxInt - 2, math.MaxInt, 0, false},
		{0, 1<<32 + 2, 0, false}, {0, 2 - 1<<32, 0, false}, {1 << 32, 2, 0, false}, {1 << 32, 1<<32 + 2, 0, false}, {0, 256 + 2, 0, false}, {300, 302 - 256, 0, false},
	} {
		if n, ok := encode.Jump(c.from, c.to); n != c.n || ok != c.ok {
			t.Errorf("Jump(%d, %d) = %d, %t, want %d, %t", c.from, c.to, n, ok, c.n, c.ok)
		}
	}
}

// P11.6: instructions with the same canonical form have the same encoding, and
// the same bytes of other entries.
func TestSynonyms(t *testing.T) {
	for _, c := range [][]string{
		{"SUB A,B", "SUB B"}, {"SUB A,-1", "SUB A,255", "SUB -1", "SUB 255"}, {"AND A,(IX+5)", "AND (IX+5)"}, {"XOR A,IYL", "XOR IYL"}, {"OR A,A", "OR A"}, {"CP A,(HL)", "CP (HL)"},
		{"ADD B", "ADD A,B"}, {"ADC -128", "ADC A,-128", "ADC 128", "ADC A,128"}, {"SBC (IY-7)", "SBC A,(IY-7)"}, {"ADD A", "ADD A,A"}, {"EX HL,DE", "EX DE,HL"},
		{"LD B,-1", "LD B,255"}, {"LD (HL),-128", "LD (HL),128"}, {"LD (IX-1),-2", "LD (IX-1),254"}, {"LD HL,-1", "LD HL,65535"}, {"LD IY,-32768", "LD IY,32768"}, {"JP -2", "JP 65534"}, {"CALL M,-32768", "CALL M,32768"},
	} {
		b, code := encode.Encode(of(t, c[0]))
		forms := hexes(encode.Forms(of(t, c[0])))
		if len(b) < 1 || len(b) > 4 || code != api.OK || forms == "" {
			t.Errorf("Encode(%s) = %s, %v, with the forms %s", c[0], hex(b), code, forms)
		}
		for _, text := range c[1:] {
			if other, code := encode.Encode(of(t, text)); hex(other) != hex(b) || code != api.OK {
				t.Errorf("Encode(%s) = %s, %v, and Encode(%s) = %s", text, hex(other), code, c[0], hex(b))
			}
			if l := hexes(encode.Forms(of(t, text))); l != forms {
				t.Errorf("Forms(%s) = %s, and Forms(%s) = %s", text, l, c[0], forms)
			}
		}
	}
}

// Examples of the chapter.
func TestExamples(t *testing.T) {
	for _, c := range []struct{ text, want string }{{"LD (IX-1),7", "DD 36 FF 07"}, {"RES 5,(IX+1),B", "DD CB 01 A8"}} {
		if b, code := encode.Encode(of(t, c.text)); hex(b) != c.want || code != api.OK {
			t.Errorf("Encode(%s) = %s, %v", c.text, hex(b), code)
		}
	}
}

// Rule 4: arguments are not changed, also where the canonical form is another
// one, and nothing behind the end of a slice is.
func TestArgumentsUnchanged(t *testing.T) {
	for _, text := range []string{"SUB A,-1", "ADD -1", "EX HL,DE", "LD (IX+3),-1", "BIT 8,A", "LD A,(IX+5)", "BIT 5,(IX+1)", "NOP"} {
		w := of(t, text)
		room := append(slices.Clone(w.Args), api.Operand{Kind: 99}, api.Operand{Kind: 98}, api.Operand{Kind: 97})
		i := api.Instr{Op: w.Op, Args: room[:len(w.Args)]}
		l := []api.Instr{i, of(t, "NOP"), i, of(t, "FOO"), of(t, "NEG")}
		encode.Encode(i)
		encode.Size(i)
		encode.Forms(i)
		encode.All(l[:3]...)
		encode.All(l...)
		if !instr.Same(i, w) || room[len(w.Args)].Kind != 99 || room[len(room)-1].Kind != 97 {
			t.Errorf("%s has changed: %v %v", text, i, room)
		}
		if !instr.Same(l[0], w) || l[1].Op != "NOP" || !instr.Same(l[2], w) || l[3].Op != "FOO" || l[4].Op != "NEG" {
			t.Errorf("a list with %s has changed: %v", text, l)
		}
	}
	for _, e := range table.Entries() {
		encode.Bytes(e, 1, 1)
		encode.Bytes(e, 1, 0)
		encode.Bytes(e, 0, 1)
		w := at(t, e.Page, e.Op)
		if e.Page != w.Page || e.Op != w.Op || e.Extra != w.Extra || e.Alias != w.Alias || !instr.Same(e.Instr, w.Instr) {
			t.Fatalf("an entry has changed: %v, want %v", e, w)
		}
	}
}

// spoil changes all that can be changed of bytes.
func spoil(b []byte) {
	b = b[:cap(b)]
	for k := range b {
		b[k] ^= 0xFF
	}
}

// Rule 4: results are new memory, also those of one call.
func TestResultsAreNew(t *testing.T) {
	for _, text := range []string{"NOP", "LD (IX-3),7", "NEG", "BIT 5,(IX+1)", "LD HL,(500)", "SUB A,B", "RLC B", "LD IY,5"} {
		i := of(t, text)
		first, _ := encode.Encode(i)
		want := hex(first)
		all, _, _ := encode.All(i)
		e := at(t, table.DDCB, 0x68)
		bytes, _ := encode.Bytes(e, 1, 0)
		forms := encode.Forms(i)
		wantForms := hexes(forms)
		for k := range forms {
			spoil(forms[k])
			again := encode.Forms(i)
			for other := k + 1; other < len(forms); other++ {
				if hex(forms[other]) != hex(again[other]) {
					t.Errorf("Forms(%s) shares memory: %s", text, hexes(forms))
				}
			}
		}
		spoil(first)
		if hex(all) != want || hex(bytes) != "DD CB 01 68" {
			t.Errorf("results of %s share memory: %s, %s", text, hex(all), hex(bytes))
		}
		spoil(all)
		spoil(bytes)
		again, _ := encode.Encode(i)
		allAgain, _, _ := encode.All(i)
		bytesAgain, _ := encode.Bytes(e, 1, 0)
		if hex(again) != want || hex(allAgain) != want || hex(bytesAgain) != "DD CB 01 68" || hexes(encode.Forms(i)) != wantForms {
			t.Errorf("results of %s have changed: %s, %s, %s", text, hex(again), hex(allAgain), hex(bytesAgain))
		}
	}
}

// P1: no instruction makes a call panic, nor does an entry that is not one of
// the table.
func TestUnusualArguments(t *testing.T) {
	many := api.Instr{Op: "LD", Args: slices.Repeat([]api.Operand{{Kind: api.Idx, Reg: api.IX, N: 1}}, 100000)}
	for _, i := range []api.Instr{
		{}, {Op: "LD"}, {Args: []api.Operand{{}}}, many, {Op: strings.Repeat("LD", 100000)}, {Op: "\xff\x00"},
		{Op: "LD", Args: []api.Operand{{Kind: math.MaxInt, Reg: math.MinInt, N: math.MaxInt}, {Kind: math.MinInt, Reg: math.MaxInt, N: math.MinInt}}},
		{Op: "LD", Args: []api.Operand{{Kind: api.R16, Reg: api.HL}, {Kind: api.Imm, N: math.MinInt}}}, {Op: "JR", Args: []api.Operand{{Kind: api.Rel, N: math.MaxInt}}},
	} {
		b, code := encode.Encode(i)
		n, sizeCode := encode.Size(i)
		if len(b) != 0 || code == api.OK || n != 0 || sizeCode != code || len(encode.Forms(i)) != 0 {
			t.Errorf("%.100q has the encoding %s, %v", i.Op, hex(b), code)
		}
		if all, k, allCode := encode.All(i, of(t, "NOP")); len(all) != 0 || k != 0 || allCode != code {
			t.Errorf("All(%.100q) = %s, %d, %v", i.Op, hex(all), k, allCode)
		}
	}
	nothing, _ := table.At(table.ED, 0)
	for _, e := range []table.Entry{nothing, {Page: -1}, {Page: math.MaxInt, Extra: "x"}, {Extra: "dnwe\xff\u20acd"}, {Page: table.DDCB}, {Page: table.FDCB, Extra: "ndd", Instr: many}} {
		encode.Bytes(e, 0, 0)
		encode.Bytes(e, 1, -1)
		encode.Bytes(e, math.MinInt, math.MaxInt)
	}
}

// Rule 6: the functions may be called concurrently.
func TestConcurrently(t *testing.T) {
	var l []api.Instr
	var want []string
	for _, c := range encodings {
		l, want = append(l, of(t, c.text)), append(want, c.want)
	}
	var wg sync.WaitGroup
	for range 8 {
		wg.Go(func() {
			for k, i := range l {
				b, code := encode.Encode(i)
				n, _ := encode.Size(i)
				if hex(b) != want[k] || code != api.OK || n != len(b) || !slices.ContainsFunc(encode.Forms(i), func(form []byte) bool { return hex(form) == want[k] }) {
					t.Errorf("Encode(%v) = %s, %v, want %s", i, hex(b), code, want[k])
				}
			}
			if b, n, code := encode.All(l...); hex(b) != strings.Join(want, " ") || n != len(l) || code != api.OK {
				t.Errorf("All = %s, %d, %v", hex(b), n, code)
			}
		})
	}
	wg.Wait()
}
