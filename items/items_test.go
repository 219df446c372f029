package items_test

import (
	"bytes"
	"fmt"
	"math"
	"slices"
	"strconv"
	"strings"
	"sync"
	"testing"

	"breadboard/api"
	"breadboard/items"
	"breadboard/num"
	"breadboard/operand"
)

// of returns the instruction that a text stands for. Numbers are decimal, and
// an e in front of one makes it a distance. C is a condition where RET, JR, JP
// or CALL can have one.
func of(t *testing.T, text string) api.Instr {
	t.Helper()
	op, args, hasArgs := strings.Cut(text, " ")
	i := api.Instr{Op: op}
	if !hasArgs {
		return i
	}
	for k, word := range strings.Split(args, ",") {
		isCondition := k == 0 && (op == "RET" || op == "JR" || op == "JP" || op == "CALL")
		i.Args = append(i.Args, operandOf(t, word, isCondition))
	}
	return i
}

func operandOf(t *testing.T, word string, isCondition bool) api.Operand {
	t.Helper()
	if n, err := strconv.Atoi(word); err == nil {
		return api.Operand{Kind: api.Imm, N: n}
	}
	if rest, ok := strings.CutPrefix(word, "e"); ok {
		n, err := strconv.Atoi(rest)
		if err != nil {
			t.Fatal("no distance:", word)
		}
		return api.Operand{Kind: api.Rel, N: n}
	}
	if inner, ok := strings.CutPrefix(word, "("); ok {
		return memoryOf(t, strings.TrimSuffix(inner, ")"))
	}
	for _, o := range operand.Named(word) {
		if len(operand.Named(word)) == 1 || (o.Kind == api.Cond) == isCondition {
			return o
		}
	}
	t.Fatal("no operand:", word)
	return api.Operand{}
}

// memoryOf returns the operand that has a text in brackets.
func memoryOf(t *testing.T, inner string) api.Operand {
	t.Helper()
	if n, err := strconv.Atoi(inner); err == nil {
		return api.Operand{Kind: api.Mem, N: n}
	}
	if inner == "C" {
		return api.Operand{Kind: api.Ind, Reg: api.IndC}
	}
	if len(inner) > 2 {
		n, err := strconv.Atoi(inner[2:])
		if err != nil {
			t.Fatal("no displacement:", inner)
		}
		return api.Operand{Kind: api.Idx, Reg: operand.Named(inner[:2])[0].Reg, N: n}
	}
	return api.Operand{Kind: api.Ind, Reg: operand.Named(inner)[0].Reg}
}

// bytesOf returns the bytes of a text with spaces between their digits.
func bytesOf(t *testing.T, text string) []byte {
	t.Helper()
	b, ok := num.Bytes(strings.ReplaceAll(text, " ", ""))
	if !ok {
		t.Fatal("no bytes:", text)
	}
	return b
}

// hex returns bytes as texts of the tests have them.
func hex(b []byte) string { return fmt.Sprintf("% X", b) }

// stopIfFailed ends a test of very many inputs at the first that fails, so
// that its report stays short.
func stopIfFailed(t *testing.T) {
	t.Helper()
	if t.Failed() {
		t.FailNow()
	}
}

// itemOf returns the item with the bytes of a text that a word stands for: the
// name of a kind, or an instruction, which is that of an alias if a * follows.
func itemOf(t *testing.T, raw, word string) api.Item {
	t.Helper()
	item := api.Item{Raw: bytesOf(t, raw)}
	switch word {
	case "stray":
		item.Kind = api.Stray
	case "hole":
		item.Kind = api.Hole
	case "truncated":
		item.Kind = api.Truncated
	default:
		text, isAlias := strings.CutSuffix(word, "*")
		item.Kind, item.Instr, item.Alias = api.Code1, of(t, text), isAlias
	}
	return item
}

// isSame compares all fields of items, without the package.
func isSame(a, b api.Item) bool {
	return a.Kind == b.Kind && bytes.Equal(a.Raw, b.Raw) && a.Instr.Op == b.Instr.Op && slices.Equal(a.Instr.Args, b.Instr.Args) && a.Alias == b.Alias
}

// listOf returns the items of a text, with their bytes and words (see itemOf)
// on both sides of an equals sign, and semicolons between them. A word behind
// no bytes is one of an item without Raw.
func listOf(t *testing.T, text string) []api.Item {
	t.Helper()
	var l []api.Item
	if text == "" {
		return l
	}
	for _, part := range strings.Split(text, ";") {
		raw, word, _ := strings.Cut(strings.TrimSpace(part), "=")
		l = append(l, itemOf(t, raw, word))
	}
	return l
}

// areSame compares lists of items, without the package.
func areSame(a, b []api.Item) bool { return slices.EqualFunc(a, b, isSame) }

// sameCode compares lists of instructions.
func sameCode(a, b []api.Instr) bool {
	return slices.EqualFunc(a, b, func(x, y api.Instr) bool { return x.Op == y.Op && slices.Equal(x.Args, y.Args) })
}

// decoded has lists that are the items of their bytes: items of every page
// with each letter of Extra, Strays, Holes and aliases in turn, and ends at
// which bytes are missing.
var decoded = []string{
	"",
	"00=NOP",
	"DD=truncated",
	"00=NOP; DD=stray; 00=NOP; ED=truncated",
	"21 34 12=LD HL,4660; DD=stray; DD 7E 05=LD A,(IX+5); ED FF=hole; ED 4C=NEG*; DD CB=truncated",
	"3E 05=LD A,5; CB 37=SLL A; ED 44=NEG; DD 21 02 01=LD IX,258; FD 36 80 FF=LD (IY-128),255; DD CB 01 A8=RES 5,(IX+1),B; FD CB FF 36=SLL (IY-1); C9=RET",
	"10 FE=DJNZ e-2; 20 80=JR NZ,e-128; 18 7F=JR e127; D8=RET C; DC FF FF=CALL C,65535; D3 FE=OUT (254),A; ED 78=IN A,(C)",
	"ED 63 01 02=LD (513),HL*; ED 7C=NEG*; ED 5D=RETN*; ED 76=IM 1*; DD CB 01 68=BIT 5,(IX+1)*; FD CB 00 7D=BIT 7,(IY+0)*; ED 7B FE FF=LD SP,(65534)",
	// Strays in front of all kinds of items, also of others
	"DD=stray; DD=stray; FD=stray; FD=stray; DD=stray; 00=NOP",
	"DD=stray; ED 44=NEG; FD=stray; ED 00=hole; DD=stray; ED 63 01 02=LD (513),HL*; FD=stray; DD CB 01 06=RLC (IX+1); DD=stray; FD 21 00 00=LD IY,0",
	"FD=stray; 3E 05=LD A,5; DD=stray; C3 02 01=JP 258; DD=stray; EB=EX DE,HL; FD=stray; 01 34 12=LD BC,4660",
	// Holes
	"ED 00=hole; ED ED=hole; ED DD=hole; ED CB=hole; 00=NOP; ED FD=hole; 21 ED 00=LD HL,237; ED 77=hole",
	// Numbers that look like prefixes
	"3E DD=LD A,221; 06 CB=LD B,203; 21 DD CB=LD HL,52189; DD 36 DD ED=LD (IX-35),237; CB DD=SET 3,L; CB CB=SET 1,E; DD CB CB CB=SET 1,(IX-53),E; FE ED=CP 237; 18 FD=JR e-3",
	// Ends at each place where a byte can be missing
	"00=NOP; 3E=truncated",
	"00=NOP; 18=truncated",
	"00=NOP; 21=truncated",
	"00=NOP; 21 34=truncated",
	"00=NOP; CD DD=truncated",
	"00=NOP; CB=truncated",
	"ED 00=hole; ED=truncated",
	"ED 00=hole; FD=truncated",
	"DD=stray; DD=truncated",
	"DD=stray; ED=truncated",
	"FD=stray; DD CB=truncated",
	"FD=stray; DD CB 05=truncated",
	"3E 05=LD A,5; FD CB=truncated",
	"3E 05=LD A,5; FD CB DD=truncated",
	"ED 4C=NEG*; ED 63=truncated",
	"ED 4C=NEG*; ED 63 01=truncated",
	"CB 37=SLL A; ED 43=truncated",
	"CB 37=SLL A; ED 43 00=truncated",
	"C9=RET; DD 21=truncated",
	"C9=RET; DD 21 34=truncated",
	"C9=RET; FD 7E=truncated",
	"C9=RET; DD 36=truncated",
	"C9=RET; FD 36 01=truncated",
	"C9=RET; FD 26=truncated",
}

// P13.1 to P13.4: the items of bytes, and what all functions say of them.
func TestDecode(t *testing.T) {
	for _, text := range decoded {
		want := listOf(t, text)
		b := joined(want)
		l := items.Decode(b)
		if !areSame(l, want) {
			t.Errorf("Decode(%s) = %v, want %v", hex(b), l, want)
		}
		if !items.Check(l...) || !items.Check(want...) {
			t.Errorf("Check of %q is false", text)
		}
		checkList(t, want)
	}
}

// joined returns the bytes of items, without the package.
func joined(l []api.Item) []byte {
	b := []byte{}
	for _, item := range l {
		b = append(b, item.Raw...)
	}
	return b
}

// checkList compares Raw, Offsets, Count, Code and Covers of any items with
// what the chapter says of them, item by item.
func checkList(t *testing.T, l []api.Item) {
	t.Helper()
	b := joined(l)
	if raw := items.Raw(l...); !bytes.Equal(raw, b) {
		t.Errorf("Raw(%v) = %s, want %s", l, hex(raw), hex(b))
	}
	offsets, count, code := []int{}, map[int]int{}, []api.Instr{}
	owner := []int{} // the item that has each byte
	for k, item := range l {
		offsets = append(offsets, len(owner))
		count[item.Kind]++
		if item.Kind == 1 {
			code = append(code, item.Instr)
		}
		for range item.Raw {
			owner = append(owner, k)
		}
	}
	if got := items.Offsets(l...); !slices.Equal(got, offsets) {
		t.Errorf("Offsets(%v) = %v, want %v", l, got, offsets)
	}
	for _, kind := range []int{1, 2, 3, 4, 0, -1, 5, 9, 257, 1<<32 + 1, math.MaxInt, math.MinInt} {
		if n := items.Count(kind, l...); n != count[kind] {
			t.Errorf("Count(%d, %v) = %d, want %d", kind, l, n, count[kind])
		}
	}
	if got := items.Code(l...); !sameCode(got, code) {
		t.Errorf("Code(%v) = %v, want %v", l, got, code)
	}
	for offset := -3; offset <= len(owner)+3; offset++ {
		want, there := 0, offset >= 0 && offset < len(owner)
		if there {
			want = owner[offset]
		}
		if k, ok := items.Covers(offset, l...); k != want || ok != there {
			t.Errorf("Covers(%d, %v) = %d, %t, want %d, %t", offset, l, k, ok, want, there)
		}
	}
	for _, offset := range []int{math.MaxInt, math.MaxInt - 1, math.MinInt, math.MinInt + 1, 1 << 32, -1 << 32, 1<<32 + 1, -256, -65536} {
		if k, ok := items.Covers(offset, l...); k != 0 || ok {
			t.Errorf("Covers(%d, %v) = %d, %t", offset, l, k, ok)
		}
	}
}

// P13.1: bytes with a single item.
func TestOneItem(t *testing.T) {
	for _, c := range []struct{ raw, word string }{
		{"00", "NOP"}, {"76", "HALT"}, {"FF", "RST 56"}, {"3E 80", "LD A,128"}, {"21 FF 7F", "LD HL,32767"}, {"CB 00", "RLC B"}, {"ED B0", "LDIR"}, {"ED 4B 00 80", "LD BC,(32768)"},
		{"DD E9", "JP (IX)"}, {"DD 24", "INC IXH"}, {"DD 2E C8", "LD IXL,200"}, {"DD 34 00", "INC (IX+0)"}, {"DD 36 01 02", "LD (IX+1),2"}, {"FD 2A 01 00", "LD IY,(1)"}, {"FD CB 40 19", "RR (IY+64),C"},
		{"ED 6B 02 01", "LD HL,(258)*"}, {"ED 00", "hole"}, {"ED FF", "hole"}, {"CB", "truncated"}, {"DD", "truncated"}, {"ED", "truncated"}, {"FD", "truncated"}, {"DD CB", "truncated"}, {"FD CB 7F", "truncated"}, {"06", "truncated"}, {"31 FF", "truncated"}, {"DD 36 80", "truncated"},
	} {
		want := itemOf(t, c.raw, c.word)
		if l := items.Decode(want.Raw); len(l) != 1 || !isSame(l[0], want) || !items.Check(l...) {
			t.Errorf("Decode(%s) = %v, want %v", c.raw, l, want)
		}
		checkList(t, []api.Item{want})
	}
}

// P13.1 to P13.5: no bytes and no items.
func TestNothing(t *testing.T) {
	for _, b := range [][]byte{nil, {}, make([]byte, 0, 8), []byte{0x00, 0xDD}[:0]} {
		if l := items.Decode(b); len(l) != 0 {
			t.Errorf("Decode of nothing is %v", l)
		}
		if n := items.Split(b); n != 1 {
			t.Errorf("Split of nothing is %d", n)
		}
	}
	for _, l := range [][]api.Item{nil, {}, make([]api.Item, 0, 3), []api.Item{{Kind: api.Stray, Raw: []byte{1}}}[:0]} {
		if !items.Check(l...) {
			t.Error("Check of nothing is false")
		}
		checkList(t, l)
	}
	if len(items.Raw()) != 0 || len(items.Offsets()) != 0 || items.Count(api.Code1) != 0 || items.Count(0) != 0 || len(items.Code()) != 0 || !items.Check() {
		t.Error("no items have something")
	}
	if k, ok := items.Covers(0); k != 0 || ok {
		t.Errorf("Covers(0) = %d, %t", k, ok)
	}
}

// odd has items that no bytes have: of other kinds, with too many bytes or
// none, and with fields that do not fit each other.
func odd(t *testing.T) []api.Item {
	return []api.Item{
		{}, {Kind: api.Code1}, {Kind: api.Hole, Alias: true}, {Kind: 9, Raw: []byte{1}}, {Kind: -1, Raw: bytesOf(t, "DD 21 00 00 FF 05 07")},
		{Kind: api.Truncated, Raw: []byte{0}}, {Kind: api.Stray}, {Kind: api.Truncated, Raw: []byte{}}, {Kind: api.Stray, Raw: []byte{0, 0}, Instr: of(t, "NOP")},
		{Kind: api.Code1, Raw: []byte{5}, Instr: api.Instr{Op: "no such", Args: []api.Operand{{Kind: 99, Reg: math.MinInt, N: math.MaxInt}}}, Alias: true},
		{Kind: math.MaxInt, Raw: []byte{7, 7, 7, 7}}, {Kind: math.MinInt}, {Kind: 1<<32 + 1, Raw: []byte{0}, Instr: of(t, "NOP")},
		{Kind: api.Code1, Raw: make([]byte, 300), Instr: api.Instr{Op: "ld", Args: []api.Operand{}}}, {Kind: 0, Instr: of(t, "LD A,5")}, {Kind: api.Code1, Instr: of(t, "LD (IX+5),7")},
	}
}

// P13.1, P13.2 and P13.4 and P1: items that no bytes have, each alone, all of
// them, and between others.
func TestOddItems(t *testing.T) {
	l := odd(t)
	for k, item := range l {
		checkList(t, []api.Item{item})
		checkList(t, l[k:])
		checkList(t, l[:k])
		between := slices.Concat(listOf(t, "3E 05=LD A,5; DD=stray"), []api.Item{item, item}, listOf(t, "ED 00=hole; ED=truncated"))
		checkList(t, between)
		if items.Check(item) || items.Check(between...) {
			t.Errorf("Check of %v is true", item)
		}
	}
	if items.Check(l...) {
		t.Error("Check of items that no bytes have is true")
	}
}

// P13.2: offsets of items with 1 to 4 bytes, and without any.
func TestOffsets(t *testing.T) {
	for _, c := range []struct {
		list string
		want []int
	}{
		{"00=NOP", []int{0}}, {"=NOP", []int{0}}, {"DD CB 01 A8=RES 5,(IX+1),B", []int{0}},
		{"00=NOP; 3E 05=LD A,5; 21 34 12=LD HL,4660; DD 21 02 01=LD IX,258; DD=stray; ED 00=hole; ED=truncated", []int{0, 1, 3, 6, 10, 11, 13}},
		{"=NOP; =stray; 00=NOP; =hole; =truncated; 3E 05=LD A,5; =NOP", []int{0, 0, 0, 1, 1, 1, 3}},
		{"DD CB 01 A8=RES 5,(IX+1),B; DD CB 01 A8=RES 5,(IX+1),B; 00=NOP", []int{0, 4, 8}},
	} {
		if got := items.Offsets(listOf(t, c.list)...); !slices.Equal(got, c.want) {
			t.Errorf("Offsets(%s) = %v, want %v", c.list, got, c.want)
		}
	}
}

// P13.2: items of each kind, and other numbers.
func TestCount(t *testing.T) {
	l := listOf(t, "00=NOP; DD=stray; ED 4C=NEG*; ED 00=hole; DD=stray; 3E 05=LD A,5; FD=stray; ED FF=hole; 00=NOP; ED=truncated")
	for kind, want := range map[int]int{api.Code1: 4, api.Stray: 3, api.Hole: 2, api.Truncated: 1, 0: 0, 5: 0, 9: 0, -1: 0, -2: 0, 257: 0, math.MaxInt: 0, math.MinInt: 0} {
		if n := items.Count(kind, l...); n != want {
			t.Errorf("Count(%d) = %d, want %d", kind, n, want)
		}
	}
}

// P13.2: instructions of aliases too, and none of other kinds, even if there
// is one in the field.
func TestCode(t *testing.T) {
	l := listOf(t, "DD=stray; 3E 05=LD A,5; ED 00=hole; ED 4C=NEG*; DD=stray; 00=NOP; 00=NOP; ED=truncated")
	want := []api.Instr{of(t, "LD A,5"), of(t, "NEG"), of(t, "NOP"), of(t, "NOP")}
	if code := items.Code(l...); !sameCode(code, want) {
		t.Errorf("Code = %v, want %v", code, want)
	}
	for _, c := range []struct{ list, want string }{{"DD=stray", ""}, {"ED 00=hole", ""}, {"ED=truncated", ""}, {"DD=stray; ED 00=hole; DD=truncated", ""}, {"ED=truncated; C9=RET", "RET"}} {
		var want []api.Instr
		if c.want != "" {
			want = append(want, of(t, c.want))
		}
		if code := items.Code(listOf(t, c.list)...); !sameCode(code, want) {
			t.Errorf("Code(%s) = %v, want %v", c.list, code, want)
		}
	}
	for _, kind := range []int{0, 2, 3, 4, 5, -1, 257} {
		l := []api.Item{{Kind: kind, Raw: []byte{0}, Instr: of(t, "NOP")}}
		if code := items.Code(l...); len(code) != 0 {
			t.Errorf("Code of an item of the kind %d is %v", kind, code)
		}
	}
}

// P13.3: lists that are not the items of their bytes.
func TestCheckFails(t *testing.T) {
	for _, list := range []string{
		// Items with another kind, alias or instruction
		"00=stray", "00=hole", "00=truncated", "DD=stray", "ED=hole", "00=NOP*", "ED 4C=NEG", "ED 44=NEG*", "00=HALT", "3E 05=LD A,6", "3E 05=LD B,5", "DD 7E 05=LD A,(IY+5)", "DD 7E FF=LD A,(IX+255)", "3E FF=LD A,-1", "10 FE=DJNZ e254",
		"ED 00=truncated", "ED 00=stray", "DD=hole", "CB 37=SLA A", "ED 63 01 02=LD (513),HL",
		// Truncated, but not at the end
		"DD=truncated; 00=NOP", "ED=truncated; 00=NOP", "21 34=truncated; 12=LD (DE),A", "00=NOP; 3E=truncated; 05=DEC B", "DD CB=truncated; 00=NOP", "DD CB=truncated; DD CB=truncated", "3E=truncated; 3E=truncated", "00=NOP; ED=truncated; ED=truncated",
		// Strays, but at the end or in front of bytes on which they have an effect
		"00=NOP; DD=stray", "DD=stray; FD=stray", "DD=stray; 21 02 01=LD HL,258", "DD=stray; 7E=LD A,(HL)", "FD=stray; E9=JP (HL)", "DD=stray; CB 01=RLC C",
		// Joined
		"DD 00=stray", "DD DD=stray", "00 00=NOP", "DD 00=NOP", "DD 3E 05=LD A,5", "3E 05 3E=LD A,5", "ED 00 00=hole", "ED 44 ED 44=NEG", "00 3E=truncated", "DD ED=truncated", "ED 00 ED=truncated",
		// Divided
		"3E=LD A,5; 05=DEC B", "ED=hole; 00=NOP", "ED=hole; ED=hole", "DD CB=stray; 01 06=hole", "21=truncated; 34=INC (HL)", "DD=stray; CB=stray; 01=stray; 06=stray",
		// Items without Raw
		"=NOP", "=stray", "=truncated", "00=NOP; =NOP", "=NOP; 00=NOP", "00=NOP; =stray; DD=stray; 00=NOP", "DD=stray; =stray; 00=NOP",
		// The same items, but the bytes are those of others among them
		"3E 05 00=LD A,5; =NOP", "00 00=NOP; =NOP", "=NOP; 00 00=NOP", "DD DD=stray; =stray; 00=NOP", "DD=stray; 00 ED 00=NOP; =hole", "00 ED=NOP; 00=hole", "ED 00 ED=hole; 4C=NEG*",
		// In another order
		"DD=stray; 7E=LD A,(HL); 05=DEC B", "ED=truncated; 21 34 12=LD HL,4660",
	} {
		if l := listOf(t, list); items.Check(l...) {
			t.Errorf("Check(%s) is true", list)
		}
	}
}

// P13.3: lists that are the items of their bytes, though they come from others.
func TestCheckHolds(t *testing.T) {
	l := listOf(t, "21 34 12=LD HL,4660; DD=stray; DD 7E 05=LD A,(IX+5); ED FF=hole; ED 4C=NEG*; DD CB=truncated")
	for k := range l {
		if !items.Check(l[k:]...) {
			t.Errorf("Check of the items from %d on is false", k)
		}
		// Without those behind it, DD alone is the beginning of an instruction.
		if items.Check(l[:k]...) != (k != 2) {
			t.Errorf("Check of the items up to %d is %t", k, k == 2)
		}
	}
	for _, list := range []string{"ED FF=hole; 21 34 12=LD HL,4660", "DD=stray; ED FF=hole", "DD=stray; DD=stray; 00=NOP", "ED 4C=NEG*; ED 44=NEG; ED 4C=NEG*", "DD=truncated"} {
		if !items.Check(listOf(t, list)...) {
			t.Errorf("Check(%s) is false", list)
		}
	}
	empty := []api.Item{{Kind: api.Code1, Raw: []byte{0}, Instr: api.Instr{Op: "NOP", Args: []api.Operand{}}}}
	if !items.Check(empty...) {
		t.Error("Check of NOP with an empty list of operands is false")
	}
}

// changes returns copies of an item that have one field changed.
func changes(item api.Item) []api.Item {
	var l []api.Item
	change := func(change func(item *api.Item)) {
		c := copyOf(item)
		change(&c)
		l = append(l, c)
	}
	for kind := range 6 {
		if kind != item.Kind {
			change(func(item *api.Item) { item.Kind = kind })
		}
	}
	change(func(item *api.Item) { item.Alias = !item.Alias })
	change(func(item *api.Item) { item.Instr.Op += "X" })
	change(func(item *api.Item) { item.Instr.Op = strings.ToLower(item.Instr.Op) + " " })
	change(func(item *api.Item) { item.Instr.Args = append(item.Instr.Args, api.Operand{}) })
	for k := range item.Instr.Args {
		change(func(item *api.Item) { item.Instr.Args[k].Kind++ })
		change(func(item *api.Item) { item.Instr.Args[k].Reg++ })
		change(func(item *api.Item) { item.Instr.Args[k].N++ })
		change(func(item *api.Item) { item.Instr.Args = item.Instr.Args[:k] })
	}
	return l
}

// copyOf returns an item with memory of its own.
func copyOf(item api.Item) api.Item {
	item.Raw, item.Instr.Args = slices.Clone(item.Raw), slices.Clone(item.Instr.Args)
	return item
}

// P13.3: items of which one has a field changed, or is left out, doubled or in
// another place.
func TestCheckOfChanges(t *testing.T) {
	for _, text := range decoded {
		l := listOf(t, text)
		for k, item := range l {
			for _, changed := range changes(item) {
				m := slices.Clone(l)
				m[k] = changed
				if items.Check(m...) {
					t.Errorf("Check(%v) is true", m)
				}
			}
			checkAsDecoded(t, slices.Delete(slices.Clone(l), k, k+1))
			checkAsDecoded(t, slices.Insert(slices.Clone(l), k, item))
			for j := range k {
				m := slices.Clone(l)
				m[j], m[k] = m[k], m[j]
				checkAsDecoded(t, m)
			}
			if k > 0 {
				joint := copyOf(l[k-1])
				joint.Raw = append(joint.Raw, item.Raw...)
				checkAsDecoded(t, slices.Replace(slices.Clone(l), k-1, k+1, joint))
			}
		}
	}
}

// checkAsDecoded compares Check with what it is specified by.
func checkAsDecoded(t *testing.T, l []api.Item) {
	t.Helper()
	if ok := items.Check(l...); ok != areSame(l, items.Decode(joined(l))) {
		t.Errorf("Check(%v) = %t", l, ok)
	}
}

// P13.4: each byte of some items, and items without bytes.
func TestCovers(t *testing.T) {
	for _, c := range []struct {
		list string
		want string // the index for each offset
	}{
		{"00=NOP", "0"}, {"3E 05=LD A,5; 21 34 12=LD HL,4660; DD=stray; DD CB 01 A8=RES 5,(IX+1),B; ED 00=hole; ED=truncated", "0011123333445"},
		{"=NOP; 00=NOP", "1"}, {"=NOP; =stray; 3E 05=LD A,5; =hole; =NOP; 00=NOP; =truncated", "225"}, {"=NOP; =NOP", ""}, {"00=NOP; =NOP", "0"},
	} {
		l := listOf(t, c.list)
		for offset, digit := range c.want {
			if k, ok := items.Covers(offset, l...); k != int(digit-'0') || !ok {
				t.Errorf("Covers(%d, %s) = %d, %t, want %c", offset, c.list, k, ok, digit)
			}
		}
		for _, offset := range []int{-1, -2, -len(c.want), len(c.want), len(c.want) + 1, math.MaxInt, math.MinInt, math.MinInt + 1, -1 << 32, 1 << 32} {
			if k, ok := items.Covers(offset, l...); k != 0 || ok {
				t.Errorf("Covers(%d, %s) = %d, %t", offset, c.list, k, ok)
			}
		}
	}
}

// P13.5: encodings one after the other, and bytes that are none.
func TestSplit(t *testing.T) {
	for _, c := range []struct {
		b    string
		want int
	}{
		{"00", 1}, {"00 00", 1}, {"3E 05", 1}, {"3E 05 3E 05 C9", 1}, {"DD 21 01 02", 1}, {"ED 44", 1}, {"CB 37 CB 00", 1}, {"DD CB 01 A8 FD CB FF 36", 1}, {"DD 36 DD ED", 1}, {"3E DD 3E ED", 1}, {"21 DD CB 06 CB", 1}, {"ED 7B FE FF DD E9 10 FE", 1},
		{"22 01 02", 1}, {"2A 01 02", 1}, {"DD CB 01 6E", 1},
		// A byte too few
		{"3E", 0}, {"21", 0}, {"21 34", 0}, {"00 3E", 0}, {"3E 05 3E", 0}, {"DD CB 01 A8 FD CB FF", 0}, {"DD CB 01", 0}, {"DD CB", 0}, {"ED 7B FE", 0}, {"CB", 0}, {"DD", 0}, {"ED", 0}, {"FD", 0}, {"00 DD 36 01", 0}, {"00 18", 0},
		// A byte too many, which is not an encoding either
		{"3E 05 ED", 0}, {"00 DD", 0}, {"DD CB 01 A8 CB", 0}, {"21 34 12 21", 0}, {"00 06", 0},
		// Strays
		{"DD 00", 0}, {"FD 3E 05", 0}, {"DD DD 21 01 02", 0}, {"00 DD 00", 0}, {"00 FD ED 44", 0}, {"DD EB", 0},
		// Holes
		{"ED 00", 0}, {"ED FF", 0}, {"ED 00 00", 0}, {"00 ED 77 00", 0}, {"ED ED 44", 0},
		// Aliases
		{"ED 4C", 0}, {"ED 63 01 02", 0}, {"ED 6B 01 02", 0}, {"ED 5D", 0}, {"DD CB 01 68", 0}, {"FD CB 01 7F", 0}, {"00 ED 7C", 0}, {"ED 7C 00", 0}, {"ED 44 ED 4C ED 44", 0},
	} {
		if n := items.Split(bytesOf(t, c.b)); n != c.want {
			t.Errorf("Split(%s) = %d, want %d", c.b, n, c.want)
		}
	}
}

// P13.5: as many bytes as it is specified for, and more of them.
func TestSplitMany(t *testing.T) {
	for _, c := range []struct {
		part string
		want int
	}{
		{"00", 1}, {"3E 05", 1}, {"DD CB 01 A8", 1}, {"DD 21 01 02", 1}, {"21 34 12 00", 1}, {"ED 44 CB 37", 1}, {"CB CB", 1}, {"FF", 1}, {"ED A0 DD 7E 05", 1}, {"DD 36 DD 36", 1},
		{"DD", 0}, {"FD", 0}, {"ED", 0}, {"ED ED", 0}, {"ED 4C", 0}, {"DD 00", 0}, {"DD CB 01 68", 0}, {"3E 05 ED 63 01 02 00 00", 0},
	} {
		part := bytesOf(t, c.part)
		b := bytes.Repeat(part, 2000/len(part))
		if n := items.Split(b); len(b) != 2000 || n != c.want {
			t.Errorf("Split of %d bytes %s is %d, want %d", len(b), c.part, n, c.want)
		}
		for _, end := range []string{"ED 4C", "ED 00", "DD 00", "3E", "DD CB 05"} {
			last := bytesOf(t, end)
			if n := items.Split(append(slices.Clone(b[:2000-len(part)]), last...)); n != 0 {
				t.Errorf("Split of many %s and %s is %d", c.part, end, n)
			}
		}
		if n := items.Split(bytes.Repeat(part, 20000)); n != c.want {
			t.Errorf("Split of very many %s is %d", c.part, n)
		}
	}
}

// Examples of the chapter and of the document.
func TestExamples(t *testing.T) {
	b := []byte{0x00, 0xDD, 0x00, 0xED}
	want := []api.Item{{Kind: api.Code1, Raw: []byte{0x00}, Instr: api.Instr{Op: "NOP"}}, {Kind: api.Stray, Raw: []byte{0xDD}}, {Kind: api.Code1, Raw: []byte{0x00}, Instr: api.Instr{Op: "NOP"}}, {Kind: api.Truncated, Raw: []byte{0xED}}}
	if l := items.Decode(b); !areSame(l, want) {
		t.Errorf("Decode = %v", l)
	}
}

// Rule 4: nothing behind the end of a slice is read.
func TestBehindEnd(t *testing.T) {
	room := bytesOf(t, "00 21 34 12 DD 7E 05 00")
	for n := range len(room) + 1 {
		b := room[:n]
		if l, want := items.Decode(b), items.Decode(slices.Clone(b)); !areSame(l, want) || !bytes.Equal(joined(l), b) {
			t.Errorf("Decode(%s) = %v with more behind the end", hex(b), l)
		}
		if items.Split(b) != items.Split(slices.Clone(b)) {
			t.Errorf("Split(%s) differs with more behind the end", hex(b))
		}
	}
	l := items.Decode(room)
	for n := range len(l) + 1 {
		checkList(t, l[:n])
	}
	short := []api.Item{{Kind: api.Truncated, Raw: bytesOf(t, "21 34 12")[:2]}}
	checkList(t, short)
	if !items.Check(short...) {
		t.Error("Check reads behind the end of Raw")
	}
}

// spoil changes all that can be changed of an item.
func spoil(item api.Item) {
	raw := item.Raw[:cap(item.Raw)]
	for k := range raw {
		raw[k] ^= 0xFF
	}
	args := item.Instr.Args[:cap(item.Instr.Args)]
	for k := range args {
		args[k] = api.Operand{Kind: 99, Reg: 98, N: 97}
	}
}

// Rule 4: the items of bytes are new memory, each with its own.
func TestItemsAreNew(t *testing.T) {
	for _, text := range decoded {
		want := listOf(t, text)
		b := joined(want)
		before := slices.Clone(b)
		l := items.Decode(b)
		for k := range b {
			b[k] ^= 0x55
		}
		if !areSame(l, want) {
			t.Errorf("items of %s have changed with the bytes: %v", hex(before), l)
		}
		copy(b, before)
		other := items.Decode(b)
		for k := range l {
			spoil(l[k])
			if !areSame(l[k+1:], want[k+1:]) {
				t.Errorf("items of %s share memory", hex(b))
			}
		}
		if !areSame(other, want) || !bytes.Equal(b, before) || !areSame(items.Decode(b), want) {
			t.Errorf("items of %s share memory with others, or with the bytes", hex(b))
		}
	}
}

// Rule 4 and P13.1: what the functions return of items shares no memory with
// them, and they do not change them.
func TestResultsAreNew(t *testing.T) {
	lists := [][]api.Item{odd(t)}
	for _, text := range decoded {
		lists = append(lists, listOf(t, text))
	}
	for _, l := range lists {
		var before []api.Item
		for _, item := range l {
			before = append(before, copyOf(item))
		}
		raw, offsets, code := items.Raw(l...), items.Offsets(l...), items.Code(l...)
		wantRaw, wantOffsets := joined(before), items.Offsets(before...)
		items.Check(l...)
		items.Count(api.Code1, l...)
		items.Covers(1, l...)
		if !areSame(l, before) {
			t.Errorf("items have changed: %v, want %v", l, before)
		}
		spoil(api.Item{Raw: raw})
		for k := range code {
			spoil(api.Item{Instr: code[k]})
			code[k] = api.Instr{Op: "spoiled"}
		}
		for k := range offsets {
			offsets[k] = -1
		}
		if !areSame(l, before) || !bytes.Equal(items.Raw(l...), wantRaw) || !slices.Equal(items.Offsets(l...), wantOffsets) {
			t.Errorf("results share memory with the items: %v, want %v", l, before)
		}
		raw, code = items.Raw(l...), items.Code(l...)
		wantCode := items.Code(before...)
		for k := range l {
			spoil(l[k])
		}
		if !bytes.Equal(raw, wantRaw) || !sameCode(code, wantCode) {
			t.Errorf("results have changed with the items: %s, %v", hex(raw), code)
		}
	}
}

// Rule 4: the list of a single item is a copy as well, and equal instructions
// of two items have memory of their own.
func TestCopies(t *testing.T) {
	shared := of(t, "LD (IX+5),7")
	l := []api.Item{{Kind: api.Code1, Raw: []byte{1, 2}, Instr: shared}, {Kind: api.Code1, Instr: shared}}
	code := items.Code(l...)
	code[0].Args[0].N = 99
	if code[1].Args[0].N != 5 || l[0].Instr.Args[0].N != 5 {
		t.Errorf("instructions share memory: %v", code)
	}
	raw := items.Raw(l[:1]...)
	raw[0] = 99
	if l[0].Raw[0] != 1 {
		t.Error("Raw of one item is that of the item")
	}
	room := []byte{1, 2, 3, 4}
	raw = items.Raw(api.Item{Raw: room[:1]}, api.Item{Raw: []byte{9, 9}})
	if !bytes.Equal(raw, []byte{1, 9, 9}) || !bytes.Equal(room, []byte{1, 2, 3, 4}) {
		t.Errorf("Raw = %v writes behind the end: %v", raw, room)
	}
}

// P13.1: all addresses of a processor, and more of them.
func TestManyBytes(t *testing.T) {
	for _, c := range []struct{ part, list string }{
		{"00", "00=NOP"}, {"DD 00", "DD=stray; 00=NOP"}, {"ED ED", "ED ED=hole"}, {"DD CB 01 A8", "DD CB 01 A8=RES 5,(IX+1),B"}, {"3E 05 ED 4C", "3E 05=LD A,5; ED 4C=NEG*"},
	} {
		part, want := bytesOf(t, c.part), listOf(t, c.list)
		n := api.Space * 2 / len(part)
		b := bytes.Repeat(part, n)
		l := items.Decode(b)
		if len(l) != n*len(want) || !bytes.Equal(items.Raw(l...), b) || !items.Check(l...) || !items.Check(l[1:]...) || items.Check(l[:len(l)-1]...) != (l[len(l)-2].Kind != api.Stray) {
			t.Errorf("many %s are %d items", c.part, len(l))
		}
		for k, item := range l {
			if !isSame(item, want[k%len(want)]) {
				t.Fatalf("item %d of many %s is %v", k, c.part, item)
			}
		}
		if k, ok := items.Covers(len(b)-1, l...); k != len(l)-1 || !ok {
			t.Errorf("the last byte of many %s is that of %d, %t", c.part, k, ok)
		}
	}
}

// Rule 6: the functions may be called concurrently.
func TestConcurrently(t *testing.T) {
	var wants [][]api.Item
	for _, text := range decoded {
		wants = append(wants, listOf(t, text))
	}
	var wg sync.WaitGroup
	for range 8 {
		wg.Go(func() {
			for _, want := range wants {
				b := joined(want)
				l := items.Decode(b)
				if !areSame(l, want) || !items.Check(want...) || !bytes.Equal(items.Raw(want...), b) || len(items.Offsets(want...)) != len(want) || len(items.Code(want...)) != items.Count(api.Code1, want...) || items.Split(b) > 1 {
					t.Errorf("Decode(%s) = %v, want %v", hex(b), l, want)
				}
				items.Covers(0, want...)
			}
		})
	}
	wg.Wait()
}
