package search_test

import (
	"math"
	"slices"
	"strconv"
	"strings"
	"sync"
	"testing"

	"breadboard/api"
	"breadboard/canon"
	"breadboard/instr"
	"breadboard/operand"
	"breadboard/search"
	"breadboard/table"
)

// of returns the instruction that a text stands for. Numbers are decimal, and
// an e in front of one makes it a distance. C is a condition where RET, JR, JP
// or CALL can have one.
func of(t *testing.T, text string) api.Instr {
	t.Helper()
	op, args, hasArgs := strings.Cut(text, " ")
	i := api.Instr{Op: op}
	if !hasArgs {
		return i
	}
	for k, word := range strings.Split(args, ",") {
		isCondition := k == 0 && (op == "RET" || op == "JR" || op == "JP" || op == "CALL")
		i.Args = append(i.Args, operandOf(t, word, isCondition))
	}
	return i
}

func operandOf(t *testing.T, word string, isCondition bool) api.Operand {
	t.Helper()
	if n, err := strconv.Atoi(word); err == nil {
		return api.Operand{Kind: api.Imm, N: n}
	}
	if rest, ok := strings.CutPrefix(word, "e"); ok {
		n, err := strconv.Atoi(rest)
		if err != nil {
			t.Fatal("no distance:", word)
		}
		return api.Operand{Kind: api.Rel, N: n}
	}
	if inner, ok := strings.CutPrefix(word, "("); ok {
		return memoryOf(t, strings.TrimSuffix(inner, ")"))
	}
	for _, o := range operand.Named(word) {
		if len(operand.Named(word)) == 1 || (o.Kind == api.Cond) == isCondition {
			return o
		}
	}
	t.Fatal("no operand:", word)
	return api.Operand{}
}

// memoryOf returns the operand that has a text in brackets.
func memoryOf(t *testing.T, inner string) api.Operand {
	t.Helper()
	if n, err := strconv.Atoi(inner); err == nil {
		return api.Operand{Kind: api.Mem, N: n}
	}
	if inner == "C" {
		return api.Operand{Kind: api.Ind, Reg: api.IndC}
	}
	if len(inner) > 2 {
		n, err := strconv.Atoi(inner[2:])
		if err != nil {
			t.Fatal("no displacement:", inner)
		}
		return api.Operand{Kind: api.Idx, Reg: operand.Named(inner[:2])[0].Reg, N: n}
	}
	return api.Operand{Kind: api.Ind, Reg: operand.Named(inner)[0].Reg}
}

// name returns a short text of an entry: its page and its opcode.
func name(e table.Entry) string {
	pages := [...]string{"", "CB ", "ED ", "DD ", "FD ", "DD CB ", "FD CB "}
	return pages[e.Page] + strings.ToUpper(strconv.FormatInt(0x100+int64(e.Op), 16)[1:])
}

// names returns the texts of entries with commas between them.
func names(l []table.Entry) string {
	var s []string
	for _, e := range l {
		s = append(s, name(e))
	}
	return strings.Join(s, ",")
}

func isSameEntry(a, b table.Entry) bool {
	return a.Page == b.Page && a.Op == b.Op && a.Extra == b.Extra && a.Alias == b.Alias && instr.Same(a.Instr, b.Instr)
}

func isZero(e table.Entry) bool {
	return isSameEntry(e, table.Entry{}) && e.Instr.Args == nil
}

func at(t *testing.T, page int, op byte) table.Entry {
	t.Helper()
	e, kind := table.At(page, op)
	if kind != table.Legal {
		t.Fatalf("page %d has no entry of %02X", page, op)
	}
	return e
}

// stopIfFailed ends a test of very many inputs at the first that fails, so
// that its report stays short.
func stopIfFailed(t *testing.T) {
	t.Helper()
	if t.Failed() {
		t.FailNow()
	}
}

// legal has instructions with the names of the entries that they have, the
// first of which is the one that is no alias, and with their values.
var legal = []struct {
	text string
	all  string
	d, n int
}{
	// Main
	{"NOP", "00", 0, 0}, {"HALT", "76", 0, 0}, {"LD A,B", "78", 0, 0}, {"LD H,(HL)", "66", 0, 0}, {"LD (HL),L", "75", 0, 0}, {"LD B,C", "41", 0, 0},
	{"LD A,5", "3E", 0, 5}, {"LD (HL),255", "36", 0, 255}, {"LD HL,65535", "21", 0, 65535}, {"LD SP,0", "31", 0, 0}, {"LD A,(65535)", "3A", 0, 65535}, {"LD (256),A", "32", 0, 256},
	{"ADD HL,SP", "39", 0, 0}, {"ADD A,(HL)", "86", 0, 0}, {"SUB 7", "D6", 0, 7}, {"CP A", "BF", 0, 0}, {"INC (HL)", "34", 0, 0}, {"DEC SP", "3B", 0, 0},
	{"RET", "C9", 0, 0}, {"RET C", "D8", 0, 0}, {"JP (HL)", "E9", 0, 0}, {"JP 1000", "C3", 0, 1000}, {"JP M,1000", "FA", 0, 1000}, {"CALL 8", "CD", 0, 8}, {"CALL C,65535", "DC", 0, 65535},
	{"JR e-128", "18", 0, -128}, {"JR C,e127", "38", 0, 127}, {"DJNZ e-2", "10", 0, -2}, {"RST 0", "C7", 0, 0}, {"RST 56", "FF", 0, 0}, {"RST 8", "CF", 0, 0},
	{"OUT (255),A", "D3", 0, 255}, {"IN A,(0)", "DB", 0, 0}, {"IN A,(77)", "DB", 0, 77}, {"EX AF,AF'", "08", 0, 0}, {"EX (SP),HL", "E3", 0, 0}, {"EX DE,HL", "EB", 0, 0}, {"PUSH AF", "F5", 0, 0}, {"POP BC", "C1", 0, 0},
	// CB
	{"RLC B", "CB 00", 0, 0}, {"SLL (HL)", "CB 36", 0, 0}, {"SRL A", "CB 3F", 0, 0}, {"BIT 0,B", "CB 40", 0, 0}, {"BIT 5,(HL)", "CB 6E", 0, 0}, {"RES 7,A", "CB BF", 0, 0}, {"SET 1,E", "CB CB", 0, 0},
	// ED
	{"LDIR", "ED B0", 0, 0}, {"OTDR", "ED BB", 0, 0}, {"RETI", "ED 4D", 0, 0}, {"RRD", "ED 67", 0, 0}, {"IN (C)", "ED 70", 0, 0}, {"IN C,(C)", "ED 48", 0, 0}, {"OUT (C),0", "ED 71", 0, 0}, {"OUT (C),A", "ED 79", 0, 0},
	{"SBC HL,HL", "ED 62", 0, 0}, {"ADC HL,SP", "ED 7A", 0, 0}, {"LD (500),BC", "ED 43", 0, 500}, {"LD SP,(65535)", "ED 7B", 0, 65535}, {"LD I,A", "ED 47", 0, 0}, {"LD A,R", "ED 5F", 0, 0},
	// The aliases of ED
	{"LD HL,(500)", "2A,ED 6B", 0, 500}, {"LD (0),HL", "22,ED 63", 0, 0}, {"NEG", "ED 44,ED 4C,ED 54,ED 5C,ED 64,ED 6C,ED 74,ED 7C", 0, 0}, {"RETN", "ED 45,ED 55,ED 5D,ED 65,ED 6D,ED 75,ED 7D", 0, 0},
	{"IM 0", "ED 46,ED 4E,ED 66,ED 6E", 0, 0}, {"IM 1", "ED 56,ED 76", 0, 0}, {"IM 2", "ED 5E,ED 7E", 0, 0},
	// DD and FD
	{"LD A,(IX+5)", "DD 7E", 5, 0}, {"LD (IX-3),7", "DD 36", -3, 7}, {"LD (IY+127),255", "FD 36", 127, 255}, {"LD (IY-128),0", "FD 36", -128, 0}, {"LD L,(IY+0)", "FD 6E", 0, 0}, {"LD IXH,IXL", "DD 65", 0, 0}, {"LD IYL,200", "FD 2E", 0, 200},
	{"LD IX,65535", "DD 21", 0, 65535}, {"LD (9),IY", "FD 22", 0, 9}, {"LD IX,(9)", "DD 2A", 0, 9}, {"ADD IX,IX", "DD 29", 0, 0}, {"ADD IY,BC", "FD 09", 0, 0}, {"JP (IX)", "DD E9", 0, 0}, {"EX (SP),IY", "FD E3", 0, 0}, {"LD SP,IX", "DD F9", 0, 0}, {"CP IYH", "FD BC", 0, 0}, {"INC (IX+1)", "DD 34", 1, 0}, {"SBC A,(IY-1)", "FD 9E", -1, 0},
	// DDCB and FDCB, with their copies
	{"RLC (IX+1)", "DD CB 06", 1, 0}, {"RLC (IX+1),A", "DD CB 07", 1, 0}, {"SLL (IY-128),H", "FD CB 34", -128, 0}, {"RES 5,(IX+1)", "DD CB AE", 1, 0}, {"RES 5,(IX+1),B", "DD CB A8", 1, 0}, {"SET 0,(IY+127),L", "FD CB C5", 127, 0}, {"SET 7,(IY+0)", "FD CB FE", 0, 0},
	{"BIT 5,(IX+1)", "DD CB 6E,DD CB 68,DD CB 69,DD CB 6A,DD CB 6B,DD CB 6C,DD CB 6D,DD CB 6F", 1, 0},
	{"BIT 0,(IY-1)", "FD CB 46,FD CB 40,FD CB 41,FD CB 42,FD CB 43,FD CB 44,FD CB 45,FD CB 47", -1, 0},
	// Those whose canonical form has an entry
	{"SUB A,B", "90", 0, 0}, {"AND A,A", "A7", 0, 0}, {"CP A,(IX+2)", "DD BE", 2, 0}, {"XOR A,IYH", "FD AC", 0, 0}, {"OR A,-128", "F6", 0, 128}, {"ADD B", "80", 0, 0}, {"ADC (IY-2)", "FD 8E", -2, 0}, {"SBC -1", "DE", 0, 255}, {"ADD IXL", "DD 85", 0, 0}, {"EX HL,DE", "EB", 0, 0},
	{"LD B,-1", "06", 0, 255}, {"LD (HL),-128", "36", 0, 128}, {"LD (IX-1),-128", "DD 36", -1, 128}, {"LD HL,-2", "21", 0, 65534}, {"LD IY,-32768", "FD 21", 0, 32768}, {"LD SP,-129", "31", 0, 65407}, {"JP -1", "C3", 0, 65535}, {"CALL NZ,-32768", "C4", 0, 32768},
}

// P10.1, P10.2, P10.3 and P10.4: single instructions of every page.
func TestLegalInstructions(t *testing.T) {
	for _, c := range legal {
		i := of(t, c.text)
		first, _, _ := strings.Cut(c.all, ",")
		e, code := search.Find(i)
		if name(e) != first || code != api.OK || e.Alias {
			t.Errorf("Find(%s) = %s, %v, want %s", c.text, name(e), code, first)
		}
		if w := at(t, e.Page, e.Op); !isSameEntry(e, w) {
			t.Errorf("Find(%s) = %v, want %v", c.text, e, w)
		}
		all := strings.Split(c.all, ",")
		slices.SortFunc(all, compareNames)
		l := search.All(i)
		if names(l) != strings.Join(all, ",") {
			t.Errorf("All(%s) = %s, want %s", c.text, names(l), c.all)
		}
		if !search.Legal(i) {
			t.Errorf("Legal(%s) is false", c.text)
		}
		for _, e := range l {
			d, n := search.Values(e, i)
			if d != c.d || n != c.n || !search.Fits(e, i) {
				t.Errorf("Values(%s, %s) = %d, %d, want %d, %d", name(e), c.text, d, n, c.d, c.n)
			}
		}
	}
}

// compareNames orders names of entries as the table does, as far as the ones
// of one instruction go: pages with fewer prefixes precede the others.
func compareNames(a, b string) int {
	if len(a) != len(b) {
		return len(a) - len(b)
	}
	return strings.Compare(a, b)
}

// refused has instructions that have no entry.
var refused = []struct {
	text string
	code api.Code
}{
	{"FOO", api.ErrName}, {"nop", api.ErrName}, {"Ld A,B", api.ErrName}, {"", api.ErrName}, {"DEFB 1", api.ErrName},
	{"LD A,A,A,A", api.ErrShape}, {"SET 1,(IX+1),B,B", api.ErrShape}, {"NOP A,B,C,D", api.ErrShape},
	// Operands that are not valid
	{"LD A,(IX+128)", api.ErrRange}, {"LD A,(IY-129)", api.ErrRange}, {"LD HL,65536", api.ErrRange}, {"LD HL,-32769", api.ErrRange}, {"LD A,(65536)", api.ErrRange}, {"LD A,(-1)", api.ErrRange}, {"JR e128", api.ErrRange}, {"JR NZ,e-129", api.ErrRange}, {"NOP 65536", api.ErrRange}, {"HALT (IX+200)", api.ErrRange},
	// The shape of an entry
	{"LD B,256", api.ErrRange}, {"LD B,-129", api.ErrRange}, {"SUB A,256", api.ErrRange}, {"ADD 300", api.ErrRange}, {"LD (IX+1),256", api.ErrRange}, {"LD IXH,-129", api.ErrRange}, {"OUT (256),A", api.ErrRange}, {"IN A,(65535)", api.ErrRange},
	{"BIT 8,A", api.ErrRange}, {"BIT -1,B", api.ErrRange}, {"RES 8,(IX+1)", api.ErrRange}, {"RES 8,(IX+1),B", api.ErrRange}, {"SET 256,(HL)", api.ErrRange}, {"BIT 8,(IY+0)", api.ErrRange}, {"RST 1", api.ErrRange}, {"RST 64", api.ErrRange}, {"RST -8", api.ErrRange}, {"IM 3", api.ErrRange}, {"IM -1", api.ErrRange}, {"OUT (C),1", api.ErrRange}, {"OUT (C),-1", api.ErrRange}, {"OUT (C),256", api.ErrRange},
	// No shape of an entry
	{"NOP A", api.ErrShape}, {"LD", api.ErrShape}, {"LD A", api.ErrShape}, {"LD A,B,C", api.ErrShape}, {"LD (HL),(HL)", api.ErrShape}, {"LD A,NZ", api.ErrShape}, {"LD HL,HL", api.ErrShape}, {"LD 5,A", api.ErrShape}, {"LD HL,SP", api.ErrShape}, {"LD (5),B", api.ErrShape}, {"LD (5),6", api.ErrShape}, {"LD B,(BC)", api.ErrShape}, {"LD B,I", api.ErrShape}, {"LD I,B", api.ErrShape},
	{"LD IXH,IYL", api.ErrShape}, {"LD IXH,(IX+0)", api.ErrShape}, {"LD IXH,H", api.ErrShape}, {"LD L,IYL", api.ErrShape}, {"LD (IX+1),(IX+1)", api.ErrShape}, {"LD (IX+1),(IY+1)", api.ErrShape}, {"LD (IX+1),IXH", api.ErrShape}, {"LD A,(IX)", api.ErrShape}, {"JP (IX+0)", api.ErrShape},
	{"ADD IX,IY", api.ErrShape}, {"ADD IX,HL", api.ErrShape}, {"ADD HL,IX", api.ErrShape}, {"ADD HL,(IX+0)", api.ErrShape}, {"ADC IX,BC", api.ErrShape}, {"EX DE,IX", api.ErrShape}, {"EX IX,DE", api.ErrShape}, {"EX AF',AF", api.ErrShape}, {"EX HL,(SP)", api.ErrShape}, {"SUB B,A", api.ErrShape}, {"SUB A,A,A", api.ErrShape}, {"SUB HL,BC", api.ErrShape}, {"ADD HL", api.ErrShape},
	{"JR PO,e0", api.ErrShape}, {"JR 5", api.ErrShape}, {"DJNZ NZ,e0", api.ErrShape}, {"JP e5", api.ErrShape}, {"JP (5)", api.ErrShape}, {"CALL (HL)", api.ErrShape}, {"RET 5", api.ErrShape}, {"POP SP", api.ErrShape}, {"PUSH B", api.ErrShape}, {"PUSH IXH", api.ErrShape}, {"RST A", api.ErrShape}, {"IM A", api.ErrShape}, {"NEG A", api.ErrShape},
	{"BIT B,5", api.ErrShape}, {"BIT 5", api.ErrShape}, {"BIT 5,(IX+1),B", api.ErrShape}, {"RES 5,(HL),B", api.ErrShape}, {"SET 5,IXH", api.ErrShape}, {"RLC (IX+1),IXH", api.ErrShape}, {"RLC A,B", api.ErrShape}, {"SLL BC", api.ErrShape}, {"IN (C),A", api.ErrShape}, {"IN B,(5)", api.ErrShape}, {"OUT (C)", api.ErrShape}, {"OUT (5),B", api.ErrShape}, {"OUT (C),(HL)", api.ErrShape}, {"IN A,5", api.ErrShape},
}

// P10.1, P10.2, P10.3 and P10.4: instructions without an entry, with each code.
func TestRefusedInstructions(t *testing.T) {
	for _, c := range refused {
		i := of(t, c.text)
		if e, code := search.Find(i); !isZero(e) || code != c.code {
			t.Errorf("Find(%s) = %v, %v, want %v", c.text, e, code, c.code)
		}
		if l := search.All(i); len(l) != 0 {
			t.Errorf("All(%s) = %s", c.text, names(l))
		}
		if search.Legal(i) {
			t.Errorf("Legal(%s) is true", c.text)
		}
		for _, e := range table.Named(i.Op) {
			d, n := search.Values(e, i)
			if search.Fits(e, i) || d != 0 || n != 0 {
				t.Errorf("%s has the entry %s, or the values %d and %d", c.text, name(e), d, n)
			}
		}
	}
}

// P10.2: the codes of instr.Check precede those of the search, in its order;
// and an operand that is not valid has no entry, though it can look like one
// that is.
func TestFindChecks(t *testing.T) {
	r := func(kind, reg, n int) api.Operand { return api.Operand{Kind: kind, Reg: reg, N: n} }
	a := r(api.R8, api.A, 0)
	for _, c := range []struct {
		i    api.Instr
		code api.Code
	}{
		{api.Instr{Op: "LD "}, api.ErrName}, {api.Instr{Op: "NOP\x00"}, api.ErrName}, {api.Instr{Op: "FOO", Args: []api.Operand{a, a, a, {Kind: -1}}}, api.ErrName}, {api.Instr{Op: "bit", Args: []api.Operand{r(api.Imm, 0, 8), a}}, api.ErrName},
		{api.Instr{Op: "LD", Args: []api.Operand{a, a, a, {Kind: -1}}}, api.ErrShape}, {api.Instr{Op: "BIT", Args: []api.Operand{r(api.Imm, 0, 8), a, {}, {}}}, api.ErrShape},
		{instr.Make("NOP", api.Operand{}), api.ErrRange}, {instr.Make("LD", a, r(api.R8, 6, 0)), api.ErrRange}, {instr.Make("LD", a, r(api.R8, 8, 0)), api.ErrRange}, {instr.Make("LD", a, r(11, 0, 0)), api.ErrRange}, {instr.Make("LD", r(api.Ind, api.AF, 0), a), api.ErrRange},
		// Fields that are not 0 without a meaning
		{instr.Make("LD", a, r(api.R8, api.B, 1)), api.ErrRange}, {instr.Make("LD", r(api.R8, api.A, -1), r(api.Imm, 0, 5)), api.ErrRange}, {instr.Make("LD", a, r(api.Imm, 1, 5)), api.ErrRange}, {instr.Make("LD", a, r(api.Mem, 2, 5)), api.ErrRange}, {instr.Make("JR", r(api.Rel, 3, 5)), api.ErrRange},
		{instr.Make("RET", r(api.Cond, api.Z, 7)), api.ErrRange}, {instr.Make("PUSH", r(api.R16, api.IX, 2)), api.ErrRange}, {instr.Make("JP", r(api.Ind, api.HL, 1)), api.ErrRange}, {instr.Make("LD", r(api.Ctl, api.RegI, 1), a), api.ErrRange}, {instr.Make("INC", r(api.RX, api.IXH, 1)), api.ErrRange}, {instr.Make("SUB", r(api.R8, api.A, 1), a), api.ErrRange}, {instr.Make("SUB", r(api.R8, api.A, 1)), api.ErrRange}, {instr.Make("RES", r(api.Imm, 0, 5), r(api.Idx, api.IX, 1), r(api.R8, api.B, 1)), api.ErrRange},
		{instr.Make("LD", a, r(api.Idx, api.HL, 0)), api.ErrRange}, {instr.Make("LD", a, r(api.Idx, 0, 0)), api.ErrRange},
	} {
		e, code := search.Find(c.i)
		if !isZero(e) || code != c.code || search.Legal(c.i) || len(search.All(c.i)) != 0 {
			t.Errorf("Find(%v) = %v, %v, want %v; All has %s", c.i, e, code, c.code, names(search.All(c.i)))
		}
		for _, e := range table.Named(c.i.Op) {
			if search.Fits(e, c.i) {
				t.Errorf("%v has the entry %s", c.i, name(e))
			}
		}
	}
}

// P10.1 and P10.2: the numbers that are no variable operands, at all values
// around them.
func TestFixedNumbers(t *testing.T) {
	numbers := []int{-32768, -256, -255, -128, -9, -8, -7, -2, -1, 248, 255, 256, 257, 264, 65535}
	for n := range 80 {
		numbers = append(numbers, n)
	}
	for _, n := range numbers {
		for _, c := range []struct {
			text     string
			isNumber bool
		}{
			{"BIT *,A", 0 <= n && n < 8}, {"RES *,(HL)", 0 <= n && n < 8}, {"SET *,B", 0 <= n && n < 8}, {"BIT *,(IX+5)", 0 <= n && n < 8}, {"RES *,(IX+5)", 0 <= n && n < 8}, {"SET *,(IY-5),C", 0 <= n && n < 8},
			{"RST *", 0 <= n && n < 64 && n%8 == 0}, {"IM *", 0 <= n && n < 3}, {"OUT (C),*", n == 0},
		} {
			text := strings.ReplaceAll(c.text, "*", strconv.Itoa(n))
			i := of(t, text)
			e, code := search.Find(i)
			if c.isNumber {
				if code != api.OK || !search.Legal(i) || len(search.All(i)) == 0 || !instr.Same(withDisplacement(e.Instr, 0), withDisplacement(i, 0)) {
					t.Errorf("Find(%s) = %v, %v", text, e, code)
				}
				continue
			}
			if code != api.ErrRange || !isZero(e) || search.Legal(i) || len(search.All(i)) != 0 {
				t.Errorf("Find(%s) = %v, %v, want %v", text, e, code, api.ErrRange)
			}
		}
		stopIfFailed(t)
	}
}

// withDisplacement returns an instruction with another number of Idx.
func withDisplacement(i api.Instr, n int) api.Instr {
	i = instr.Make(i.Op, i.Args...)
	for k, o := range i.Args {
		if o.Kind == api.Idx {
			i.Args[k].N = n
		}
	}
	return i
}

// P10.3: no instructions, one and several, with one that is not legal at each
// place.
func TestLegal(t *testing.T) {
	if !search.Legal() {
		t.Error("Legal() is false")
	}
	var l []api.Instr
	for _, c := range legal {
		l = append(l, of(t, c.text))
	}
	if !search.Legal(l...) || !search.Legal(l[:2]...) || !search.Legal(l[0], l[0]) {
		t.Error("Legal is false for instructions that have entries")
	}
	for _, text := range []string{"FOO", "NOP A", "BIT 8,A", "LD A,A,A,A", "LD A,(IX+128)"} {
		bad := of(t, text)
		for k := range l {
			if kept := l[k]; k < 5 || k == len(l)-1 {
				l[k] = bad
				if search.Legal(l...) || search.Legal(l[:k+1]...) || search.Legal(l[k:]...) {
					t.Errorf("Legal is true with %s at %d", text, k)
				}
				l[k] = kept
			}
		}
		if search.Legal(bad) || search.Legal(bad, bad) {
			t.Errorf("Legal is true with %s", text)
		}
	}
}

// P10.4: entries with each letter of Extra, with two variable operands, and
// with numbers that are not variable.
func TestValues(t *testing.T) {
	for _, c := range []struct {
		page int
		op   byte
		text string
		d, n int
	}{
		{table.DD, 0x7E, "LD A,(IX+5)", 5, 0}, {table.FD, 0x7E, "LD A,(IY-128)", -128, 0}, {table.Main, 0x18, "JR e-5", 0, -5}, {table.Main, 0x10, "DJNZ e127", 0, 127}, {table.Main, 0x3E, "LD A,200", 0, 200}, {table.Main, 0x3E, "LD A,-56", 0, 200}, {table.Main, 0xD3, "OUT (9),A", 0, 9}, {table.Main, 0x21, "LD HL,40000", 0, 40000}, {table.Main, 0x21, "LD HL,-1", 0, 65535}, {table.ED, 0x5B, "LD DE,(40000)", 0, 40000},
		{table.DD, 0x36, "LD (IX-1),-1", -1, 255}, {table.FD, 0x36, "LD (IY+1),2", 1, 2}, {table.DDCB, 0xA8, "RES 5,(IX+1),B", 1, 0}, {table.FDCB, 0x6E, "BIT 5,(IY-9)", -9, 0},
		// No variable operands
		{table.CB, 0x6F, "BIT 5,A", 0, 0}, {table.Main, 0xFF, "RST 56", 0, 0}, {table.ED, 0x5E, "IM 2", 0, 0}, {table.ED, 0x71, "OUT (C),0", 0, 0}, {table.Main, 0x00, "NOP", 0, 0},
		// Aliases and copies
		{table.ED, 0x6B, "LD HL,(500)", 0, 500}, {table.ED, 0x63, "LD (500),HL", 0, 500}, {table.ED, 0x7E, "IM 2", 0, 0}, {table.DDCB, 0x68, "BIT 5,(IX+7)", 7, 0},
		// Other entries
		{table.FD, 0x7E, "LD A,(IX+5)", 0, 0}, {table.DD, 0x46, "LD A,(IX+5)", 0, 0}, {table.DDCB, 0xAE, "RES 5,(IX+1),B", 0, 0}, {table.DDCB, 0xA8, "RES 5,(IX+1)", 0, 0}, {table.DDCB, 0xA8, "RES 4,(IX+1),B", 0, 0}, {table.Main, 0x06, "LD A,5", 0, 0}, {table.Main, 0x3E, "LD A,256", 0, 0}, {table.Main, 0x3E, "LD A,-129", 0, 0}, {table.Main, 0x00, "LD A,5", 0, 0}, {table.DD, 0x36, "LD (IX+1),256", 0, 0}, {table.DD, 0x36, "LD (IX+128),5", 0, 0}, {table.Main, 0x18, "JR NZ,e5", 0, 0}, {table.Main, 0x20, "JR Z,e5", 0, 0}, {table.Main, 0xD3, "OUT (256),A", 0, 0}, {table.Main, 0x3A, "LD HL,(5)", 0, 0}, {table.Main, 0xC6, "ADD A,5,6", 0, 0},
	} {
		if d, n := search.Values(at(t, c.page, c.op), of(t, c.text)); d != c.d || n != c.n {
			t.Errorf("Values of %s are %d and %d, want %d and %d", c.text, d, n, c.d, c.n)
		}
	}
}

// P10.5: entries with each letter of Extra, with two variable operands and with
// none, with numbers at and beyond the ends of their ranges, and with numbers
// that no operand has.
func TestFill(t *testing.T) {
	for _, c := range []struct {
		page int
		op   byte
		d, n int
		want string // nothing, if there is no such instruction
	}{
		{table.DD, 0x7E, 5, 0, "LD A,(IX+5)"}, {table.DD, 0x7E, -128, 0, "LD A,(IX-128)"}, {table.FD, 0x7E, 127, 0, "LD A,(IY+127)"}, {table.DD, 0x7E, -129, 0, ""}, {table.DD, 0x7E, 128, 0, ""}, {table.DD, 0x7E, 5, 1, ""}, {table.DD, 0x7E, 0, -1, ""}, {table.DD, 0x7E, 255, 0, ""},
		{table.Main, 0x18, 0, -128, "JR e-128"}, {table.Main, 0x38, 0, 127, "JR C,e127"}, {table.Main, 0x10, 0, 128, ""}, {table.Main, 0x10, 0, -129, ""}, {table.Main, 0x10, 1, 0, ""}, {table.Main, 0x18, -1, 5, ""},
		{table.Main, 0x3E, 0, 255, "LD A,255"}, {table.Main, 0x3E, 0, 0, "LD A,0"}, {table.Main, 0x3E, 0, 256, ""}, {table.Main, 0x3E, 0, -1, ""}, {table.Main, 0x3E, 1, 5, ""}, {table.Main, 0xD3, 0, 255, "OUT (255),A"}, {table.Main, 0xDB, 0, 256, ""}, {table.Main, 0xDB, 0, -1, ""},
		{table.Main, 0x21, 0, 65535, "LD HL,65535"}, {table.Main, 0x21, 0, 65536, ""}, {table.Main, 0x21, 0, -1, ""}, {table.Main, 0x3A, 0, 65535, "LD A,(65535)"}, {table.Main, 0x3A, 0, 65536, ""}, {table.Main, 0xDC, 0, 256, "CALL C,256"}, {table.Main, 0xC3, 3, 256, ""}, {table.ED, 0x63, 0, 500, "LD (500),HL"}, {table.DD, 0x22, 0, 500, "LD (500),IX"}, {table.DD, 0x22, 1, 500, ""},
		{table.FD, 0x36, -128, 255, "LD (IY-128),255"}, {table.DD, 0x36, 127, 0, "LD (IX+127),0"}, {table.DD, 0x36, 128, 0, ""}, {table.DD, 0x36, 0, 256, ""}, {table.DD, 0x36, -129, 256, ""}, {table.DD, 0x36, 0, -1, ""},
		{table.DDCB, 0xA8, 1, 0, "RES 5,(IX+1),B"}, {table.DDCB, 0xA8, 1, 5, ""}, {table.FDCB, 0x6E, -1, 0, "BIT 5,(IY-1)"}, {table.FDCB, 0x6E, 0, 5, ""}, {table.FDCB, 0x69, -1, 0, "BIT 5,(IY-1)"}, {table.DDCB, 0x06, 128, 0, ""},
		{table.Main, 0x00, 0, 0, "NOP"}, {table.Main, 0x00, 1, 0, ""}, {table.Main, 0x00, 0, 1, ""}, {table.CB, 0x6E, 0, 0, "BIT 5,(HL)"}, {table.CB, 0x6E, 0, 5, ""}, {table.CB, 0x6E, 5, 0, ""}, {table.Main, 0xFF, 0, 0, "RST 56"}, {table.Main, 0xFF, 0, 56, ""}, {table.ED, 0x5E, 0, 0, "IM 2"}, {table.ED, 0x5E, 0, 2, ""}, {table.ED, 0x71, 0, 0, "OUT (C),0"}, {table.ED, 0x71, 0, 1, ""}, {table.Main, 0x90, 0, 0, "SUB B"}, {table.DD, 0xE9, 0, 0, "JP (IX)"}, {table.DD, 0xE9, 1, 0, ""},
		{table.DD, 0x36, math.MinInt, 0, ""}, {table.DD, 0x36, 0, math.MaxInt, ""}, {table.Main, 0x00, math.MaxInt, math.MinInt, ""}, {table.Main, 0x21, 0, math.MinInt, ""},
	} {
		var want api.Instr
		if c.want != "" {
			want = of(t, c.want)
		}
		i, ok := search.Fill(at(t, c.page, c.op), c.d, c.n)
		if ok != (c.want != "") || !instr.Same(i, want) || !ok && i.Args != nil {
			t.Errorf("Fill(page %d, %02X, %d, %d) = %v, %t, want %q", c.page, c.op, c.d, c.n, i, ok, c.want)
		}
	}
}

// Examples of the chapter.
func TestExamples(t *testing.T) {
	i := of(t, "LD A,(IX+5)")
	l := search.All(i)
	if len(l) != 1 || l[0].Page != table.DD || l[0].Op != 0x7E {
		t.Fatal(names(l))
	}
	if d, n := search.Values(l[0], i); d != 5 || n != 0 {
		t.Error(d, n)
	}
	if e, code := search.Find(of(t, "BIT 8,A")); !isZero(e) || code != api.ErrRange {
		t.Error(e, code)
	}
}

// Rule 4: arguments are not changed, also where the canonical form is another
// one, and nothing behind the end of a slice is.
func TestArgumentsUnchanged(t *testing.T) {
	for _, text := range []string{"SUB A,-1", "ADD -1", "EX HL,DE", "LD (IX+3),-1", "BIT 8,A", "LD A,(IX+5)", "NOP"} {
		w := of(t, text)
		room := append(slices.Clone(w.Args), api.Operand{Kind: 99}, api.Operand{Kind: 98}, api.Operand{Kind: 97})
		i := api.Instr{Op: w.Op, Args: room[:len(w.Args)]}
		var l []table.Entry
		for _, c := range legal {
			e, _ := search.Find(of(t, c.text))
			l = append(l, e)
		}
		search.Find(i)
		search.All(i)
		search.Legal(i, i)
		for k, e := range l {
			search.Fits(e, i)
			search.Values(e, i)
			search.Fill(e, 1, 1)
			search.Fill(e, 1, 0)
			search.Fill(e, 0, 1)
			if w := at(t, e.Page, e.Op); !isSameEntry(e, w) {
				t.Errorf("the entry of %s has changed: %v", legal[k].text, e)
			}
		}
		if !instr.Same(i, w) || room[len(w.Args)].Kind != 99 || room[len(room)-1].Kind != 97 {
			t.Errorf("%s has changed: %v %v", text, i, room)
		}
	}
}

// spoil changes all that can be changed of operands.
func spoil(args []api.Operand) {
	args = args[:cap(args)]
	for k := range args {
		args[k] = api.Operand{Kind: -1, Reg: -1, N: -1}
	}
}

// Rule 4: results are new memory.
func TestResultsAreNew(t *testing.T) {
	for _, text := range []string{"LD (IX-3),7", "NEG", "BIT 5,(IX+1)", "LD HL,(500)", "RST 8", "SUB A,B"} {
		i, kept := of(t, text), of(t, text)
		e, _ := search.Find(i)
		w := at(t, e.Page, e.Op)
		spoil(e.Instr.Args)
		l := search.All(i)
		for k := range l {
			if !isSameEntry(l[k], at(t, l[k].Page, l[k].Op)) {
				t.Fatalf("All(%s) shares memory: %v", text, l)
			}
			spoil(l[k].Instr.Args)
		}
		if again, code := search.Find(i); code != api.OK || !isSameEntry(again, w) || !instr.Same(i, kept) {
			t.Errorf("Find(%s) has changed: %v", text, again)
		}
		d, n := search.Values(w, i)
		filled, _ := search.Fill(w, d, n)
		spoil(filled.Args)
		if again, ok := search.Fill(w, d, n); !ok || !instr.Same(again, canon.Of(i)) || !isSameEntry(w, at(t, w.Page, w.Op)) {
			t.Errorf("Fill of the entry of %s has changed: %v", text, again)
		}
	}
}

// P1: no instruction makes a call panic, nor does the zero entry that table.At
// returns for an opcode without one.
func TestUnusualArguments(t *testing.T) {
	nothing, _ := table.At(table.ED, 0)
	many := api.Instr{Op: "LD", Args: slices.Repeat([]api.Operand{{Kind: api.Idx, Reg: api.IX, N: 1}}, 100000)}
	for _, i := range []api.Instr{
		{}, {Op: "LD"}, {Args: []api.Operand{{}}}, many, {Op: strings.Repeat("LD", 100000)}, {Op: "\xff\x00"},
		{Op: "LD", Args: []api.Operand{{Kind: math.MaxInt, Reg: math.MinInt, N: math.MaxInt}, {Kind: math.MinInt, Reg: math.MaxInt, N: math.MinInt}}},
		{Op: "ADD", Args: []api.Operand{{Kind: api.Idx, Reg: math.MaxInt, N: math.MinInt}}},
	} {
		if e, code := search.Find(i); !isZero(e) || code == api.OK || code != instr.Check(i) && code != api.ErrShape {
			t.Errorf("Find(%.100s) = %v, %v", i.Op, e, code)
		}
		if search.Legal(i) || len(search.All(i)) != 0 {
			t.Errorf("%.100s is legal", i.Op)
		}
		for _, e := range []table.Entry{at(t, table.DD, 0x36), at(t, table.Main, 0x10), at(t, table.Main, 0x00)} {
			if d, n := search.Values(e, i); d != 0 || n != 0 || search.Fits(e, i) {
				t.Errorf("%.100s has an entry", i.Op)
			}
		}
		search.Values(nothing, i)
		search.Fits(nothing, i)
	}
	if i, ok := search.Fill(nothing, 1, 0); ok || i.Op != "" || i.Args != nil {
		t.Error(i)
	}
}

// Rule 6: the functions may be called concurrently.
func TestConcurrently(t *testing.T) {
	var l []api.Instr
	for _, c := range legal {
		l = append(l, of(t, c.text))
	}
	var wg sync.WaitGroup
	for range 8 {
		wg.Go(func() {
			for k, c := range legal {
				e, code := search.Find(l[k])
				d, n := search.Values(e, l[k])
				filled, ok := search.Fill(e, d, n)
				if code != api.OK || d != c.d || n != c.n || !ok || !canon.Equal(filled, l[k]) || len(search.All(l[k])) != strings.Count(c.all, ",")+1 {
					t.Error(c.text, "differs")
				}
			}
			if !search.Legal(l...) {
				t.Error("Legal differs")
			}
		})
	}
	wg.Wait()
}
