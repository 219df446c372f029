package table_test

import (
	"math"
	"slices"
	"strconv"
	"strings"
	"sync"
	"testing"

	"breadboard/api"
	"breadboard/instr"
	"breadboard/operand"
	"breadboard/table"
)

// The model: each page is written out by hand, eight opcodes a row behind the
// first of them. A hyphen stands for an opcode without an entry, and an
// asterisk marks an alias. In operands, n is a byte, nn are two, e is a
// distance and d a displacement.

const mainRows = `
00 NOP; LD BC,nn; LD (BC),A; INC BC; INC B; DEC B; LD B,n; RLCA
08 EX AF,AF'; ADD HL,BC; LD A,(BC); DEC BC; INC C; DEC C; LD C,n; RRCA
10 DJNZ e; LD DE,nn; LD (DE),A; INC DE; INC D; DEC D; LD D,n; RLA
18 JR e; ADD HL,DE; LD A,(DE); DEC DE; INC E; DEC E; LD E,n; RRA
20 JR NZ,e; LD HL,nn; LD (nn),HL; INC HL; INC H; DEC H; LD H,n; DAA
28 JR Z,e; ADD HL,HL; LD HL,(nn); DEC HL; INC L; DEC L; LD L,n; CPL
30 JR NC,e; LD SP,nn; LD (nn),A; INC SP; INC (HL); DEC (HL); LD (HL),n; SCF
38 JR C,e; ADD HL,SP; LD A,(nn); DEC SP; INC A; DEC A; LD A,n; CCF
40 LD B,B; LD B,C; LD B,D; LD B,E; LD B,H; LD B,L; LD B,(HL); LD B,A
48 LD C,B; LD C,C; LD C,D; LD C,E; LD C,H; LD C,L; LD C,(HL); LD C,A
50 LD D,B; LD D,C; LD D,D; LD D,E; LD D,H; LD D,L; LD D,(HL); LD D,A
58 LD E,B; LD E,C; LD E,D; LD E,E; LD E,H; LD E,L; LD E,(HL); LD E,A
60 LD H,B; LD H,C; LD H,D; LD H,E; LD H,H; LD H,L; LD H,(HL); LD H,A
68 LD L,B; LD L,C; LD L,D; LD L,E; LD L,H; LD L,L; LD L,(HL); LD L,A
70 LD (HL),B; LD (HL),C; LD (HL),D; LD (HL),E; LD (HL),H; LD (HL),L; HALT; LD (HL),A
78 LD A,B; LD A,C; LD A,D; LD A,E; LD A,H; LD A,L; LD A,(HL); LD A,A
80 ADD A,B; ADD A,C; ADD A,D; ADD A,E; ADD A,H; ADD A,L; ADD A,(HL); ADD A,A
88 ADC A,B; ADC A,C; ADC A,D; ADC A,E; ADC A,H; ADC A,L; ADC A,(HL); ADC A,A
90 SUB B; SUB C; SUB D; SUB E; SUB H; SUB L; SUB (HL); SUB A
98 SBC A,B; SBC A,C; SBC A,D; SBC A,E; SBC A,H; SBC A,L; SBC A,(HL); SBC A,A
A0 AND B; AND C; AND D; AND E; AND H; AND L; AND (HL); AND A
A8 XOR B; XOR C; XOR D; XOR E; XOR H; XOR L; XOR (HL); XOR A
B0 OR B; OR C; OR D; OR E; OR H; OR L; OR (HL); OR A
B8 CP B; CP C; CP D; CP E; CP H; CP L; CP (HL); CP A
C0 RET NZ; POP BC; JP NZ,nn; JP nn; CALL NZ,nn; PUSH BC; ADD A,n; RST 0
C8 RET Z; RET; JP Z,nn; -; CALL Z,nn; CALL nn; ADC A,n; RST 8
D0 RET NC; POP DE; JP NC,nn; OUT (n),A; CALL NC,nn; PUSH DE; SUB n; RST 16
D8 RET C; EXX; JP C,nn; IN A,(n); CALL C,nn; -; SBC A,n; RST 24
E0 RET PO; POP HL; JP PO,nn; EX (SP),HL; CALL PO,nn; PUSH HL; AND n; RST 32
E8 RET PE; JP (HL); JP PE,nn; EX DE,HL; CALL PE,nn; -; XOR n; RST 40
F0 RET P; POP AF; JP P,nn; DI; CALL P,nn; PUSH AF; OR n; RST 48
F8 RET M; LD SP,HL; JP M,nn; EI; CALL M,nn; -; CP n; RST 56`

const edRows = `
40 IN B,(C); OUT (C),B; SBC HL,BC; LD (nn),BC; NEG; RETN; IM 0; LD I,A
48 IN C,(C); OUT (C),C; ADC HL,BC; LD BC,(nn); NEG*; RETI; IM 0*; LD R,A
50 IN D,(C); OUT (C),D; SBC HL,DE; LD (nn),DE; NEG*; RETN*; IM 1; LD A,I
58 IN E,(C); OUT (C),E; ADC HL,DE; LD DE,(nn); NEG*; RETN*; IM 2; LD A,R
60 IN H,(C); OUT (C),H; SBC HL,HL; LD (nn),HL*; NEG*; RETN*; IM 0*; RRD
68 IN L,(C); OUT (C),L; ADC HL,HL; LD HL,(nn)*; NEG*; RETN*; IM 0*; RLD
70 IN (C); OUT (C),0; SBC HL,SP; LD (nn),SP; NEG*; RETN*; IM 1*; -
78 IN A,(C); OUT (C),A; ADC HL,SP; LD SP,(nn); NEG*; RETN*; IM 2*; -
A0 LDI; CPI; INI; OUTI; -; -; -; -
A8 LDD; CPD; IND; OUTD; -; -; -; -
B0 LDIR; CPIR; INIR; OTIR; -; -; -; -
B8 LDDR; CPDR; INDR; OTDR; -; -; -; -`

// ddRows has IX; in FD, it is IY.
const ddRows = `
08 -; ADD IX,BC; -; -; -; -; -; -
18 -; ADD IX,DE; -; -; -; -; -; -
20 -; LD IX,nn; LD (nn),IX; INC IX; INC IXH; DEC IXH; LD IXH,n; -
28 -; ADD IX,IX; LD IX,(nn); DEC IX; INC IXL; DEC IXL; LD IXL,n; -
30 -; -; -; -; INC (IX+d); DEC (IX+d); LD (IX+d),n; -
38 -; ADD IX,SP; -; -; -; -; -; -
40 -; -; -; -; LD B,IXH; LD B,IXL; LD B,(IX+d); -
48 -; -; -; -; LD C,IXH; LD C,IXL; LD C,(IX+d); -
50 -; -; -; -; LD D,IXH; LD D,IXL; LD D,(IX+d); -
58 -; -; -; -; LD E,IXH; LD E,IXL; LD E,(IX+d); -
60 LD IXH,B; LD IXH,C; LD IXH,D; LD IXH,E; LD IXH,IXH; LD IXH,IXL; LD H,(IX+d); LD IXH,A
68 LD IXL,B; LD IXL,C; LD IXL,D; LD IXL,E; LD IXL,IXH; LD IXL,IXL; LD L,(IX+d); LD IXL,A
70 LD (IX+d),B; LD (IX+d),C; LD (IX+d),D; LD (IX+d),E; LD (IX+d),H; LD (IX+d),L; -; LD (IX+d),A
78 -; -; -; -; LD A,IXH; LD A,IXL; LD A,(IX+d); -
80 -; -; -; -; ADD A,IXH; ADD A,IXL; ADD A,(IX+d); -
88 -; -; -; -; ADC A,IXH; ADC A,IXL; ADC A,(IX+d); -
90 -; -; -; -; SUB IXH; SUB IXL; SUB (IX+d); -
98 -; -; -; -; SBC A,IXH; SBC A,IXL; SBC A,(IX+d); -
A0 -; -; -; -; AND IXH; AND IXL; AND (IX+d); -
A8 -; -; -; -; XOR IXH; XOR IXL; XOR (IX+d); -
B0 -; -; -; -; OR IXH; OR IXL; OR (IX+d); -
B8 -; -; -; -; CP IXH; CP IXL; CP (IX+d); -
E0 -; POP IX; -; EX (SP),IX; -; PUSH IX; -; -
E8 -; JP (IX); -; -; -; -; -; -
F8 -; LD SP,IX; -; -; -; -; -; -`

// prefixBytes has the prefixes of each page.
var prefixBytes = [][]byte{{}, {0xCB}, {0xED}, {0xDD}, {0xFD}, {0xDD, 0xCB}, {0xFD, 0xCB}}

// noPages are numbers of no page.
var noPages = []int{-1, 7, 8, -7, 255, 256, 1 << 32, math.MinInt, math.MaxInt}

// sheet is a page of the model. An opcode without a text has no entry.
type sheet [256]string

// read reads rows.
func read(t *testing.T, rows string) sheet {
	t.Helper()
	var s sheet
	for _, row := range strings.Split(strings.TrimSpace(rows), "\n") {
		start, texts, _ := strings.Cut(row, " ")
		first, err := strconv.ParseUint(start, 16, 8)
		l := strings.Split(texts, "; ")
		if err != nil || len(l) != 8 {
			t.Fatal("the model has a wrong row:", row)
		}
		for k, text := range l {
			if text != "-" {
				s[int(first)+k] = text
			}
		}
	}
	return s
}

// shifts returns the page CB, or, with memory at an index register, those that
// put their results also into a register.
func shifts(memory string) sheet {
	names := strings.Fields("RLC RRC RL RR SLA SRA SLL SRL")
	regs := strings.Fields("B C D E H L (HL) A")
	var s sheet
	for op := range 256 {
		head := names[op/8%8] + " "
		isBit := op/64 == 1
		if op >= 64 {
			head = []string{"", "BIT ", "RES ", "SET "}[op/64] + strconv.Itoa(op/8%8) + ","
		}
		reg := regs[op%8]
		switch {
		case memory == "":
			s[op] = head + reg
		case op%8 == 6:
			s[op] = head + memory
		case isBit:
			s[op] = head + memory + "*"
		default:
			s[op] = head + memory + "," + reg
		}
	}
	return s
}

// model returns all pages.
func model(t *testing.T) [7]sheet {
	t.Helper()
	return [7]sheet{
		read(t, mainRows), shifts(""), read(t, edRows), read(t, ddRows), read(t, strings.ReplaceAll(ddRows, "IX", "IY")),
		shifts("(IX+d)"), shifts("(IY+d)"),
	}
}

// words has the operands that are the same wherever their text is one, except
// for conditions.
var words = map[string]api.Operand{
	"B": {Kind: 1, Reg: 0}, "C": {Kind: 1, Reg: 1}, "D": {Kind: 1, Reg: 2}, "E": {Kind: 1, Reg: 3}, "H": {Kind: 1, Reg: 4}, "L": {Kind: 1, Reg: 5}, "A": {Kind: 1, Reg: 7},
	"IXH": {Kind: 2, Reg: 0}, "IXL": {Kind: 2, Reg: 1}, "IYH": {Kind: 2, Reg: 2}, "IYL": {Kind: 2, Reg: 3},
	"BC": {Kind: 3, Reg: 0}, "DE": {Kind: 3, Reg: 1}, "HL": {Kind: 3, Reg: 2}, "SP": {Kind: 3, Reg: 3}, "AF": {Kind: 3, Reg: 4}, "IX": {Kind: 3, Reg: 5}, "IY": {Kind: 3, Reg: 6}, "AF'": {Kind: 3, Reg: 7},
	"(BC)": {Kind: 4, Reg: 0}, "(DE)": {Kind: 4, Reg: 1}, "(HL)": {Kind: 4, Reg: 2}, "(SP)": {Kind: 4, Reg: 3}, "(IX)": {Kind: 4, Reg: 5}, "(IY)": {Kind: 4, Reg: 6}, "(C)": {Kind: 4, Reg: 8},
	"(IX+d)": {Kind: 5, Reg: 5}, "(IY+d)": {Kind: 5, Reg: 6}, "n": {Kind: 6}, "nn": {Kind: 6}, "(n)": {Kind: 7}, "(nn)": {Kind: 7},
	"I": {Kind: 9, Reg: 0}, "R": {Kind: 9, Reg: 1}, "e": {Kind: 10},
}

var conditions = map[string]int{"NZ": 0, "Z": 1, "NC": 2, "C": 3, "PO": 4, "PE": 5, "P": 6, "M": 7}

// isCondition reports whether an operand of the model is a condition.
func isCondition(op string, k int, l []string) bool {
	return k == 0 && (op == "RET" || len(l) == 2 && (op == "JR" || op == "JP" || op == "CALL"))
}

// entryOf returns the entry that a text of the model stands for.
func entryOf(t *testing.T, page, op int, text string) table.Entry {
	t.Helper()
	text, isAlias := strings.CutSuffix(text, "*")
	e := table.Entry{Page: page, Op: byte(op), Alias: isAlias}
	name, args, hasArgs := strings.Cut(text, " ")
	e.Instr.Op = name
	if !hasArgs {
		return e
	}
	l := strings.Split(args, ",")
	for k, word := range l {
		o, ok := words[word]
		if isCondition(name, k, l) {
			o, ok = api.Operand{Kind: 8, Reg: conditions[word]}, true
		} else if n, err := strconv.Atoi(word); err == nil {
			o, ok = api.Operand{Kind: 6, N: n}, true
		}
		if !ok {
			t.Fatal("the model has a wrong word:", text)
		}
		e.Instr.Args = append(e.Instr.Args, o)
		switch word {
		case "n", "(n)":
			e.Extra += "n"
		case "nn", "(nn)":
			e.Extra += "w"
		case "e":
			e.Extra += "e"
		case "(IX+d)", "(IY+d)":
			e.Extra = "d" + e.Extra
		}
	}
	return e
}

// isSame compares entries without the packages of the program.
func isSame(a, b table.Entry) bool {
	return a.Page == b.Page && a.Op == b.Op && a.Extra == b.Extra && a.Alias == b.Alias && a.Instr.Op == b.Instr.Op && slices.Equal(a.Instr.Args, b.Instr.Args)
}

func areSame(a, b []table.Entry) bool { return slices.EqualFunc(a, b, isSame) }

func isZero(e table.Entry) bool {
	return e.Page == 0 && e.Op == 0 && e.Instr.Op == "" && e.Instr.Args == nil && e.Extra == "" && !e.Alias
}

// want returns the entries of pages by the model.
func want(t *testing.T, pages ...int) []table.Entry {
	t.Helper()
	m := model(t)
	var l []table.Entry
	for _, page := range pages {
		if page < 0 || page >= len(m) {
			continue
		}
		for op, text := range m[page] {
			if text != "" {
				l = append(l, entryOf(t, page, op, text))
			}
		}
	}
	return l
}

// kindOf returns the kind of an opcode that has no entry in a page.
func kindOf(page, op int) int {
	switch {
	case page == 0, (page == 3 || page == 4) && op == 0xCB:
		return table.Prefix
	case page == 2:
		return table.Hole
	}
	return table.None
}

// stopIfFailed ends a test of very many inputs at the first that fails, so
// that its report stays short.
func stopIfFailed(t *testing.T) {
	t.Helper()
	if t.Failed() {
		t.FailNow()
	}
}

// The names of the pages and kinds have the numbers of the document.
func TestConstants(t *testing.T) {
	pages := []int{table.Main, table.CB, table.ED, table.DD, table.FD, table.DDCB, table.FDCB}
	if !slices.Equal(pages, []int{0, 1, 2, 3, 4, 5, 6}) {
		t.Error(pages)
	}
	kinds := []int{table.None, table.Legal, table.Prefix, table.Hole}
	if !slices.Equal(kinds, []int{0, 1, 2, 3}) {
		t.Error(kinds)
	}
}

// P9.1: every opcode of every page, against the model.
func TestAt(t *testing.T) {
	for page, s := range model(t) {
		for op, text := range s {
			e, kind := table.At(page, byte(op))
			if text == "" {
				if !isZero(e) || kind != kindOf(page, op) {
					t.Errorf("At(%d, %02X) = %v, %d, want no entry and %d", page, op, e, kind, kindOf(page, op))
				}
				continue
			}
			if w := entryOf(t, page, op, text); !isSame(e, w) || kind != table.Legal {
				t.Errorf("At(%d, %02X) = %v, %d, want %v", page, op, e, kind, w)
			}
		}
		stopIfFailed(t)
	}
}

// P9.1: there is nothing in a page that does not exist.
func TestAtNoPage(t *testing.T) {
	for _, page := range noPages {
		for op := range 256 {
			if e, kind := table.At(page, byte(op)); !isZero(e) || kind != table.None {
				t.Errorf("At(%d, %02X) = %v, %d", page, op, e, kind)
			}
		}
		stopIfFailed(t)
	}
}

// P9.1: the prefixes are the opcodes that select a page, and no others.
func TestAtPrefix(t *testing.T) {
	var got []string
	for page := range 7 {
		for op := range 256 {
			if _, kind := table.At(page, byte(op)); kind == table.Prefix {
				got = append(got, strconv.Itoa(page)+":"+strconv.FormatInt(int64(op), 16))
			}
		}
	}
	if !slices.Equal(got, []string{"0:cb", "0:dd", "0:ed", "0:fd", "3:cb", "4:cb"}) {
		t.Error(got)
	}
}

// textAt returns the text of an entry with its Extra, or the kind of an opcode
// that has none.
func textAt(page int, op byte) string {
	e, kind := table.At(page, op)
	if kind != table.Legal {
		return strconv.Itoa(kind)
	}
	return strings.TrimSpace(e.Instr.Op+" "+operand.List(e.Instr.Args...)) + ";" + e.Extra
}

// P9.1: single opcodes, above all those of which two patterns fit, and those
// that the paragraphs on DD and FD and on DDCB and FDCB treat apart.
func TestAtSingle(t *testing.T) {
	for _, c := range []struct {
		page int
		op   byte
		want string
	}{
		{table.Main, 0x76, "HALT;"}, {table.Main, 0x75, "LD (HL),L;"}, {table.Main, 0x66, "LD H,(HL);"}, {table.Main, 0x36, "LD (HL),0;n"},
		{table.Main, 0xC9, "RET;"}, {table.Main, 0xE3, "EX (SP),HL;"}, {table.Main, 0xF3, "DI;"}, {table.Main, 0xF6, "OR 0;n"}, {table.Main, 0xD3, "OUT (0),A;n"}, {table.Main, 0x32, "LD (0),A;w"}, {table.Main, 0x18, "JR $+2;e"},
		{table.ED, 0x70, "IN (C);"}, {table.ED, 0x78, "IN A,(C);"}, {table.ED, 0x71, "OUT (C),0;"}, {table.ED, 0x79, "OUT (C),A;"}, {table.ED, 0x4D, "RETI;"}, {table.ED, 0x45, "RETN;"}, {table.ED, 0x5D, "RETN;"}, {table.ED, 0x77, "3"}, {table.ED, 0x7F, "3"}, {table.ED, 0xED, "3"}, {table.ED, 0xCB, "3"}, {table.ED, 0xDD, "3"}, {table.ED, 0x3F, "3"}, {table.ED, 0x80, "3"}, {table.ED, 0xA4, "3"}, {table.ED, 0xBC, "3"},
		{table.DD, 0x7E, "LD A,(IX+0);d"}, {table.DD, 0x36, "LD (IX+0),0;dn"}, {table.DD, 0x66, "LD H,(IX+0);d"}, {table.DD, 0x6E, "LD L,(IX+0);d"}, {table.DD, 0x74, "LD (IX+0),H;d"}, {table.DD, 0x75, "LD (IX+0),L;d"}, {table.DD, 0x65, "LD IXH,IXL;"}, {table.DD, 0x6C, "LD IXL,IXH;"}, {table.DD, 0x29, "ADD IX,IX;"}, {table.DD, 0x22, "LD (0),IX;w"}, {table.DD, 0x2A, "LD IX,(0);w"}, {table.DD, 0xE9, "JP (IX);"}, {table.DD, 0xEB, "0"}, {table.DD, 0x76, "0"}, {table.DD, 0x1A, "0"}, {table.DD, 0xDD, "0"}, {table.DD, 0xED, "0"}, {table.DD, 0xFD, "0"}, {table.DD, 0xD9, "0"}, {table.DD, 0x00, "0"},
		{table.FD, 0x7E, "LD A,(IY+0);d"}, {table.FD, 0x36, "LD (IY+0),0;dn"}, {table.FD, 0x26, "LD IYH,0;n"}, {table.FD, 0x2E, "LD IYL,0;n"}, {table.FD, 0xE9, "JP (IY);"}, {table.FD, 0xE3, "EX (SP),IY;"}, {table.FD, 0xEB, "0"}, {table.FD, 0xCB, "2"}, {table.FD, 0xFD, "0"},
		{table.CB, 0x36, "SLL (HL);"}, {table.CB, 0x7E, "BIT 7,(HL);"}, {table.CB, 0xCB, "SET 1,E;"},
		{table.DDCB, 0x06, "RLC (IX+0);d"}, {table.DDCB, 0x07, "RLC (IX+0),A;d"}, {table.DDCB, 0x40, "BIT 0,(IX+0);d"}, {table.DDCB, 0x46, "BIT 0,(IX+0);d"}, {table.DDCB, 0xA8, "RES 5,(IX+0),B;d"}, {table.FDCB, 0x34, "SLL (IY+0),H;d"}, {table.FDCB, 0xFF, "SET 7,(IY+0),A;d"}, {table.FDCB, 0xDD, "SET 3,(IY+0),L;d"},
	} {
		if got := textAt(c.page, c.op); got != c.want {
			t.Errorf("At(%d, %02X) is %q, want %q", c.page, c.op, got, c.want)
		}
	}
}

// P9.1: the aliases of ED one by one, and those of DDCB and FDCB; no other page
// has one.
func TestAtAlias(t *testing.T) {
	isAlias := map[int]bool{}
	for _, op := range []int{0x4C, 0x54, 0x5C, 0x64, 0x6C, 0x74, 0x7C, 0x55, 0x5D, 0x65, 0x6D, 0x75, 0x7D, 0x4E, 0x66, 0x6E, 0x76, 0x7E, 0x63, 0x6B} {
		isAlias[0x100*table.ED+op] = true
	}
	for op := 0x40; op < 0x80; op++ {
		isAlias[0x100*table.DDCB+op] = op%8 != 6
		isAlias[0x100*table.FDCB+op] = op%8 != 6
	}
	for page := range 7 {
		for op := range 256 {
			if e, _ := table.At(page, byte(op)); e.Alias != isAlias[0x100*page+op] {
				t.Errorf("At(%d, %02X) has the Alias %t", page, op, e.Alias)
			}
		}
	}
}

// P9.1: Extra has only the letters of operands, d in front of the others, and
// all variable numbers are 0.
func TestAtExtra(t *testing.T) {
	found := map[string]int{}
	for _, e := range table.Entries() {
		found[e.Extra]++
		for _, o := range e.Instr.Args {
			if o.N != 0 && o.Kind != api.Imm {
				t.Error(e)
			}
		}
		var kinds [api.Rel + 1]int
		for _, o := range e.Instr.Args {
			kinds[o.Kind]++
		}
		hasD, hasE, hasN := strings.Contains(e.Extra, "d"), strings.Contains(e.Extra, "e"), strings.ContainsAny(e.Extra, "nw")
		if hasD != (kinds[api.Idx] == 1) || hasE != (kinds[api.Rel] == 1) || hasN && kinds[api.Imm]+kinds[api.Mem] != 1 || kinds[api.Mem] == 1 && !hasN {
			t.Error(e)
		}
	}
	for extra, least := range map[string]int{"": 400, "d": 500, "e": 6, "n": 20, "w": 30, "dn": 2} {
		if found[extra] < least {
			t.Errorf("the Extra %q is there %d times", extra, found[extra])
		}
		delete(found, extra)
	}
	if len(found) > 0 {
		t.Error("other Extras:", found)
	}
}

// P9.2: the entries of pages in any order, of pages that are given several
// times, and of pages that do not exist.
func TestEntries(t *testing.T) {
	all := []int{0, 1, 2, 3, 4, 5, 6}
	if got := table.Entries(); !areSame(got, want(t, all...)) {
		t.Error("without arguments:", len(got))
	}
	for _, pages := range [][]int{
		all, {0}, {1}, {2}, {3}, {4}, {5}, {6}, {1, 0}, {6, 5, 4, 3, 2, 1, 0}, {2, 2}, {0, 1, 0}, {4, 3, 4, 4}, {5, 7, 6}, {-1, 2, 7}, {7, 8, 0}, {math.MinInt, 1, math.MaxInt},
	} {
		if got := table.Entries(pages...); !areSame(got, want(t, pages...)) {
			t.Error(pages, len(got))
		}
	}
	for _, page := range noPages {
		if got := table.Entries(page); len(got) != 0 {
			t.Error(page, got)
		}
	}
	if got := table.Entries(noPages...); len(got) != 0 {
		t.Error(got)
	}
}

// P9.2: the entries are those of At, in its order.
func TestEntriesAt(t *testing.T) {
	for page := range 7 {
		l := table.Entries(page)
		for op := range 256 {
			e, kind := table.At(page, byte(op))
			if kind != table.Legal {
				continue
			}
			if len(l) == 0 || !isSame(l[0], e) {
				t.Fatalf("Entries(%d) has not the entry of %02X at its place", page, op)
			}
			l = l[1:]
		}
		if len(l) > 0 {
			t.Error("too many entries in page", page)
		}
	}
}

// P9.2: the pages have the numbers of entries that follow from the lists.
func TestEntriesNumber(t *testing.T) {
	for page, n := range []int{252, 256, 78, 85, 85, 256, 256} {
		if got := len(table.Entries(page)); got != n {
			t.Errorf("page %d has %d entries, want %d", page, got, n)
		}
	}
}

// withOp returns those entries that have a mnemonic.
func withOp(op string, l []table.Entry) []table.Entry {
	return slices.DeleteFunc(l, func(e table.Entry) bool { return e.Instr.Op != op })
}

// P9.2: Named with each mnemonic, and with words beside them.
func TestNamed(t *testing.T) {
	ops := append(instr.Ops(), "", " ", "a", "o", "A", "O", "ld", "Ld", "nop", "LD ", " LD", "L", "LDX", "ADD A", "ADD A,", "LD r,s", "DEFB", "*", "NEG*", "\xff", "\x00")
	for _, op := range ops {
		for _, pages := range [][]int{{0, 1, 2, 3, 4, 5, 6}, {0}, {1}, {2}, {3}, {4}, {5}, {6}, {6, 3, 0}, {2, 0, 2}, {7, -1, 0, 5}, {7}} {
			if got, w := table.Named(op, pages...), withOp(op, want(t, pages...)); !areSame(got, w) {
				t.Errorf("Named(%q, %v) has %d entries, want %d", op, pages, len(got), len(w))
			}
		}
		if got, w := table.Named(op), withOp(op, want(t, 0, 1, 2, 3, 4, 5, 6)); !areSame(got, w) {
			t.Errorf("Named(%q) has %d entries, want %d", op, len(got), len(w))
		}
		stopIfFailed(t)
	}
}

// P9.2: each mnemonic has an entry, and each entry has a mnemonic.
func TestNamedAll(t *testing.T) {
	n := 0
	for _, op := range instr.Ops() {
		l := table.Named(op)
		if len(l) == 0 {
			t.Error("no entry of", op)
		}
		n += len(l)
	}
	if n != len(table.Entries()) {
		t.Errorf("mnemonics have %d entries, of %d", n, len(table.Entries()))
	}
}

// P9.3: the pages of their prefixes, and the prefixes of the pages.
func TestPrefixes(t *testing.T) {
	for page, b := range prefixBytes {
		if got := table.Prefixes(page); !slices.Equal(got, b) {
			t.Errorf("Prefixes(%d) = %X, want %X", page, got, b)
		}
		if got, ok := table.PageOf(b...); got != page || !ok {
			t.Errorf("PageOf(%X) = %d, %t, want %d", b, got, ok, page)
		}
	}
	for _, page := range noPages {
		if got := table.Prefixes(page); len(got) != 0 {
			t.Errorf("Prefixes(%d) = %X", page, got)
		}
	}
}

// P9.3: all lists of up to two bytes, and longer ones.
func TestPageOf(t *testing.T) {
	check := func(b ...byte) {
		page := slices.IndexFunc(prefixBytes, func(l []byte) bool { return slices.Equal(l, b) })
		got, ok := table.PageOf(b...)
		if page < 0 && (got != 0 || ok) || page >= 0 && (got != page || !ok) {
			t.Errorf("PageOf(%X) = %d, %t", b, got, ok)
		}
	}
	check()
	for a := range 256 {
		check(byte(a))
		for b := range 256 {
			check(byte(a), byte(b))
		}
		for _, l := range prefixBytes {
			check(append(slices.Clone(l), byte(a), 0)...)
			check(append(slices.Clone(l), 0xCB, byte(a))...)
			check(append([]byte{byte(a)}, l...)...)
		}
		stopIfFailed(t)
	}
	check(make([]byte, 100000)...)
}

// P9.3: arguments are not changed.
func TestPageOfArguments(t *testing.T) {
	b := []byte{0xDD, 0xCB, 0x01, 0x02}
	table.PageOf(b[:2]...)
	table.PageOf(b[:1]...)
	if !slices.Equal(b, []byte{0xDD, 0xCB, 0x01, 0x02}) {
		t.Error(b)
	}
	pages := []int{2, 7, 0}
	table.Entries(pages[:2]...)
	table.Named("LD", pages[:2]...)
	if !slices.Equal(pages, []int{2, 7, 0}) {
		t.Error(pages)
	}
}

// P9.4: the sizes of all entries, and of single ones with each Extra.
func TestSize(t *testing.T) {
	for _, e := range want(t, 0, 1, 2, 3, 4, 5, 6) {
		size := len(prefixBytes[e.Page]) + 1 + len(e.Extra) + strings.Count(e.Extra, "w")
		if got := table.Size(e); got != size {
			t.Errorf("Size(%v) = %d, want %d", e, got, size)
		}
	}
	for _, c := range []struct {
		page int
		op   byte
		want int
	}{
		{table.Main, 0x00, 1}, {table.Main, 0x10, 2}, {table.Main, 0x3E, 2}, {table.Main, 0x21, 3}, {table.CB, 0x00, 2}, {table.ED, 0x44, 2}, {table.ED, 0x43, 4}, {table.DD, 0x23, 2}, {table.DD, 0x26, 3}, {table.DD, 0x7E, 3}, {table.DD, 0x36, 4}, {table.FD, 0x21, 4}, {table.DDCB, 0x06, 4}, {table.FDCB, 0x00, 4},
	} {
		e, _ := table.At(c.page, c.op)
		if got := table.Size(e); got != c.want {
			t.Errorf("the size of %02X in page %d is %d, want %d", c.op, c.page, got, c.want)
		}
	}
}

// P9.4: entries with other fields than those of the table.
func TestSizeOther(t *testing.T) {
	for _, c := range []struct {
		e    table.Entry
		want int
	}{
		{table.Entry{}, 1}, {table.Entry{Page: table.DD}, 2}, {table.Entry{Page: table.FDCB, Extra: "d"}, 4}, {table.Entry{Page: 7}, 1}, {table.Entry{Page: -1, Extra: "w"}, 3}, {table.Entry{Page: math.MinInt}, 1},
		{table.Entry{Extra: "denw"}, 6}, {table.Entry{Extra: "ww"}, 5}, {table.Entry{Extra: "xDENW 0d\xff"}, 2}, {table.Entry{Extra: strings.Repeat("dw", 1000)}, 3001},
	} {
		if got := table.Size(c.e); got != c.want {
			t.Errorf("Size(%v) = %d, want %d", c.e, got, c.want)
		}
	}
}

// isDocumented is a model of Documented for a text of the model.
func isDocumented(page, op int, text string) bool {
	for _, part := range []string{"*", "SLL", "IXH", "IXL", "IYH", "IYL"} {
		if strings.Contains(text, part) {
			return false
		}
	}
	if page >= 5 && op%8 != 6 {
		return false
	}
	return text != "IN (C)" && text != "OUT (C),0"
}

// P9.4: which entries are documented.
func TestDocumented(t *testing.T) {
	number := 0
	for page, s := range model(t) {
		for op, text := range s {
			if text == "" {
				continue
			}
			e := entryOf(t, page, op, text)
			if got := table.Documented(e); got != isDocumented(page, op, text) {
				t.Errorf("Documented is %t for %02X in page %d", got, op, page)
			}
			if table.Documented(e) {
				number++
			}
		}
	}
	// Those of Main; of CB without SLL; 56 of ED without IN (C) and OUT (C),0;
	// 39 of DD and of FD; and 31 of DDCB and of FDCB.
	if w := 252 + 248 + 56 + 2*39 + 2*31; number != w {
		t.Errorf("%d entries are documented, want %d", number, w)
	}
}

// P9.4: each sort of entries that is not documented, one by one, beside one
// that is.
func TestDocumentedSingle(t *testing.T) {
	for _, c := range []struct {
		page int
		op   byte
		want bool
	}{
		{table.ED, 0x63, false}, {table.ED, 0x53, true}, {table.ED, 0x6B, false}, {table.ED, 0x7B, true}, {table.ED, 0x4C, false}, {table.ED, 0x44, true}, {table.ED, 0x55, false}, {table.ED, 0x45, true}, {table.ED, 0x4E, false}, {table.ED, 0x46, true},
		{table.CB, 0x2F, true}, {table.CB, 0x30, false}, {table.CB, 0x36, false}, {table.CB, 0x37, false}, {table.CB, 0x38, true},
		{table.DD, 0x24, false}, {table.DD, 0x2D, false}, {table.FD, 0x24, false}, {table.FD, 0x2D, false}, {table.DD, 0x44, false}, {table.FD, 0x6F, false}, {table.DD, 0x23, true}, {table.FD, 0xE9, true},
		{table.DDCB, 0x00, false}, {table.DDCB, 0x06, true}, {table.DDCB, 0x36, false}, {table.DDCB, 0x45, false}, {table.DDCB, 0x46, true}, {table.FDCB, 0xC7, false}, {table.FDCB, 0xC6, true},
		{table.ED, 0x70, false}, {table.ED, 0x71, false}, {table.ED, 0x78, true}, {table.ED, 0x79, true}, {table.Main, 0xDB, true}, {table.Main, 0xD3, true},
	} {
		e, kind := table.At(c.page, c.op)
		if got := table.Documented(e); got != c.want || kind != table.Legal {
			t.Errorf("Documented is %t for %02X in page %d", got, c.op, c.page)
		}
	}
}

// P9.5: an instruction has 1 to 4 bytes.
func TestSizes(t *testing.T) {
	for _, e := range table.Entries() {
		if n := table.Size(e); n < 1 || n > 4 {
			t.Errorf("Size(%v) = %d", e, n)
		}
	}
}

// keyOf returns a text that is the same for the same instructions only.
func keyOf(i api.Instr) string {
	key := i.Op
	for _, o := range i.Args {
		key += "," + strconv.Itoa(o.Kind) + ":" + strconv.Itoa(o.Reg) + ":" + strconv.Itoa(o.N)
	}
	return key
}

// P9.5: entries that are no aliases have different instructions, and aliases
// have one that another entry has.
func TestDifferent(t *testing.T) {
	entries := map[string]table.Entry{}
	for _, e := range table.Entries() {
		key := keyOf(e.Instr)
		if other, ok := entries[key]; ok && !e.Alias {
			t.Errorf("%v and %v have the same instruction", e, other)
		}
		if !e.Alias {
			entries[key] = e
		}
		if code := instr.Check(e.Instr); code != api.OK {
			t.Errorf("%v is no instruction: %v", e, code)
		}
	}
	for _, e := range table.Entries() {
		if other, ok := entries[keyOf(e.Instr)]; e.Alias && !ok {
			t.Errorf("%v is an alias of nothing", e)
		} else if !instr.Same(e.Instr, other.Instr) {
			t.Errorf("%v and %v are not the same", e, other)
		}
	}
}

// spoil changes all that can be changed of an entry.
func spoil(e table.Entry) {
	args := e.Instr.Args[:cap(e.Instr.Args)]
	for k := range args {
		args[k] = api.Operand{Kind: -1, Reg: -1, N: -1}
	}
}

// Rule 4: a result is new memory.
func TestResultsAreNew(t *testing.T) {
	all := []int{0, 1, 2, 3, 4, 5, 6}
	wanted := want(t, all...)
	for _, w := range wanted {
		e, _ := table.At(w.Page, w.Op)
		spoil(e)
		if e, _ := table.At(w.Page, w.Op); !isSame(e, w) {
			t.Errorf("At(%d, %02X) has changed", w.Page, w.Op)
		}
	}
	got := table.Entries(all...)
	for k := range got {
		if !isSame(got[k], wanted[k]) {
			t.Fatal("entries share memory:", got[k])
		}
		spoil(got[k])
	}
	if !areSame(table.Entries(), wanted) {
		t.Error("Entries has changed")
	}
	twice := table.Named("LD", table.DD, table.DD)
	for _, e := range twice[:len(twice)/2] {
		spoil(e)
	}
	if !areSame(twice[len(twice)/2:], withOp("LD", want(t, table.DD))) {
		t.Error("the entries of a page that is given twice share memory")
	}
	for page := range 7 {
		for k, b := 0, table.Prefixes(page); k < len(b); k++ {
			b[k] = 0
		}
		if !slices.Equal(table.Prefixes(page), prefixBytes[page]) {
			t.Error("Prefixes has changed:", page)
		}
	}
}

// P9.4: entries are not changed, and ones with other fields than those of the
// table are permitted arguments.
func TestEntriesAsArguments(t *testing.T) {
	e, _ := table.At(table.DDCB, 0x00)
	table.Size(e)
	table.Documented(e)
	if w := entryOf(t, table.DDCB, 0x00, "RLC (IX+d),B"); !isSame(e, w) {
		t.Error(e)
	}
	for _, page := range append([]int{0, 1, 2, 3, 4, 5, 6}, noPages...) {
		for _, args := range [][]api.Operand{nil, {}, {{}}, {{Kind: -1}}, {{Kind: 4, Reg: 8}}, make([]api.Operand, 1000)} {
			for _, op := range []string{"", "IN", "OUT", "BIT", "SLL", "\xff"} {
				table.Size(table.Entry{Page: page, Instr: api.Instr{Op: op, Args: args}, Extra: "\xffx d"})
				table.Documented(table.Entry{Page: page, Instr: api.Instr{Op: op, Args: args}})
			}
		}
	}
}

// Rule 6: the functions may be called concurrently.
func TestConcurrently(t *testing.T) {
	wanted := want(t, 0, 1, 2, 3, 4, 5, 6)
	var wg sync.WaitGroup
	for range 8 {
		wg.Go(func() {
			if !areSame(table.Entries(), wanted) {
				t.Error("Entries differs")
			}
			for _, w := range wanted {
				if e, _ := table.At(w.Page, w.Op); !isSame(e, w) {
					t.Error("At differs:", w)
				}
			}
			if page, ok := table.PageOf(0xFD, 0xCB); page != table.FDCB || !ok {
				t.Error("PageOf differs")
			}
		})
	}
	wg.Wait()
}
