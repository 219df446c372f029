package operand_test

import (
	"fmt"
	"math"
	"math/rand"
	"slices"
	"strconv"
	"strings"
	"sync"
	"testing"

	"breadboard/api"
	"breadboard/operand"
)

// registers has the forms of all valid operands that have no N.
var registers = map[api.Operand]string{
	{Kind: 1, Reg: 0}: "B", {Kind: 1, Reg: 1}: "C", {Kind: 1, Reg: 2}: "D", {Kind: 1, Reg: 3}: "E",
	{Kind: 1, Reg: 4}: "H", {Kind: 1, Reg: 5}: "L", {Kind: 1, Reg: 7}: "A",
	{Kind: 2, Reg: 0}: "IXH", {Kind: 2, Reg: 1}: "IXL", {Kind: 2, Reg: 2}: "IYH", {Kind: 2, Reg: 3}: "IYL",
	{Kind: 3, Reg: 0}: "BC", {Kind: 3, Reg: 1}: "DE", {Kind: 3, Reg: 2}: "HL", {Kind: 3, Reg: 3}: "SP",
	{Kind: 3, Reg: 4}: "AF", {Kind: 3, Reg: 5}: "IX", {Kind: 3, Reg: 6}: "IY", {Kind: 3, Reg: 7}: "AF'",
	{Kind: 4, Reg: 0}: "(BC)", {Kind: 4, Reg: 1}: "(DE)", {Kind: 4, Reg: 2}: "(HL)", {Kind: 4, Reg: 3}: "(SP)",
	{Kind: 4, Reg: 5}: "(IX)", {Kind: 4, Reg: 6}: "(IY)", {Kind: 4, Reg: 8}: "(C)",
	{Kind: 8, Reg: 0}: "NZ", {Kind: 8, Reg: 1}: "Z", {Kind: 8, Reg: 2}: "NC", {Kind: 8, Reg: 3}: "C",
	{Kind: 8, Reg: 4}: "PO", {Kind: 8, Reg: 5}: "PE", {Kind: 8, Reg: 6}: "P", {Kind: 8, Reg: 7}: "M",
	{Kind: 9, Reg: 0}: "I", {Kind: 9, Reg: 1}: "R",
}

// strange has numbers that are wrong in most places, also some that would be
// right after a wraparound.
var strange = []int{
	-1, -2, -3, -127, -128, -129, -255, -256, -257, -32767, -32768, -32769, -65535, -65536,
	9, 10, 16, 126, 127, 128, 129, 255, 256, 257, 260, 32767, 32768, 65534, 65535, 65536, 65537,
	math.MaxInt32, math.MinInt32, math.MaxInt32 + 1, math.MinInt32 - 1, 1 << 32, 1<<32 + 1, 1<<32 + 5, -1 << 32,
	math.MaxInt, math.MaxInt - 1, math.MaxInt - 2, math.MinInt, math.MinInt + 1, math.MinInt + 5, math.MinInt + 6,
}

// numbers returns the numbers from -20 to 20 and the strange ones.
func numbers() []int {
	l := slices.Clone(strange)
	for n := -20; n <= 20; n++ {
		l = append(l, n)
	}
	return l
}

// numberText returns the form of a number from 0 to 65535 (chapter 1).
func numberText(n int) string {
	if n < 10 {
		return strconv.Itoa(n)
	}
	digits := fmt.Sprintf("%XH", n)
	if digits[0] > '9' {
		return "0" + digits
	}
	return digits
}

// signText returns a number after a sign.
func signText(n int) string {
	if n < 0 {
		return "-" + numberText(-n)
	}
	return "+" + numberText(n)
}

// formOf returns the form of an operand, and "" for one that is not valid,
// without the packages of the program.
func formOf(o api.Operand) string {
	isShort := -128 <= o.N && o.N <= 127
	switch {
	case registers[o] != "":
		return registers[o]
	case o.Kind == 5 && o.Reg == 5 && isShort:
		return "(IX" + signText(o.N) + ")"
	case o.Kind == 5 && o.Reg == 6 && isShort:
		return "(IY" + signText(o.N) + ")"
	case o.Kind == 6 && o.Reg == 0 && -32768 <= o.N && o.N <= 65535:
		return strings.TrimPrefix(signText(o.N), "+")
	case o.Kind == 7 && o.Reg == 0 && 0 <= o.N && o.N <= 65535:
		return "(" + numberText(o.N) + ")"
	case o.Kind == 10 && o.Reg == 0 && isShort:
		return "$" + signText(o.N+2)
	}
	return ""
}

// indexOf returns the index register of an operand. The forms without one have
// neither IX nor IY in them.
func indexOf(o api.Operand) int {
	switch form := formOf(o); {
	case strings.Contains(form, "IX"):
		return 5
	case strings.Contains(form, "IY"):
		return 6
	}
	return 0
}

func wantOperand(t *testing.T, o api.Operand) {
	t.Helper()
	want := formOf(o)
	if got := operand.Text(o); got != want {
		t.Errorf("Text(%v) = %q; want %q", o, got, want)
	}
	if got := operand.Valid(o); got != (want != "") {
		t.Errorf("Valid(%v) = %v; want %v", o, got, want != "")
	}
	if got := operand.List(o); got != want {
		t.Errorf("List(%v) = %q; want %q", o, got, want)
	}
	if got := operand.Index(o); got != indexOf(o) {
		t.Errorf("Index(%v) = %d; want %d", o, got, indexOf(o))
	}
}

// stopIfFailed ends a test of very many inputs at the first that fails, so
// that its report stays short.
func stopIfFailed(t *testing.T) {
	t.Helper()
	if t.Failed() {
		t.FailNow()
	}
}

// P6.1, P6.3: the rows of the chapter's table, and the operands just beside
// their ends, as they are written there.
func TestTextOfRows(t *testing.T) {
	for o, want := range map[api.Operand]string{
		{Kind: api.R8, Reg: api.B}: "B", {Kind: api.R8, Reg: api.C}: "C", {Kind: api.R8, Reg: api.L}: "L", {Kind: api.R8, Reg: api.A}: "A",
		{Kind: api.R8, Reg: -1}: "", {Kind: api.R8, Reg: 6}: "", {Kind: api.R8, Reg: 8}: "",
		{Kind: api.RX, Reg: api.IXH}: "IXH", {Kind: api.RX, Reg: api.IYL}: "IYL", {Kind: api.RX, Reg: -1}: "", {Kind: api.RX, Reg: 4}: "",
		{Kind: api.R16, Reg: api.BC}: "BC", {Kind: api.R16, Reg: api.AF2}: "AF'", {Kind: api.R16, Reg: -1}: "", {Kind: api.R16, Reg: api.IndC}: "",
		{Kind: api.Ind, Reg: api.BC}: "(BC)", {Kind: api.Ind, Reg: api.SP}: "(SP)", {Kind: api.Ind, Reg: api.AF}: "", {Kind: api.Ind, Reg: api.IX}: "(IX)",
		{Kind: api.Ind, Reg: api.IY}: "(IY)", {Kind: api.Ind, Reg: api.AF2}: "", {Kind: api.Ind, Reg: api.IndC}: "(C)", {Kind: api.Ind, Reg: 9}: "", {Kind: api.Ind, Reg: -1}: "",
		{Kind: api.Idx, Reg: api.IX}: "(IX+0)", {Kind: api.Idx, Reg: api.IX, N: -3}: "(IX-3)", {Kind: api.Idx, Reg: api.IX, N: 127}: "(IX+7FH)",
		{Kind: api.Idx, Reg: api.IX, N: 128}: "", {Kind: api.Idx, Reg: api.IY, N: -128}: "(IY-80H)", {Kind: api.Idx, Reg: api.IY, N: -129}: "",
		{Kind: api.Idx, Reg: api.IY, N: 10}: "(IY+0AH)", {Kind: api.Idx, Reg: api.IY, N: -10}: "(IY-0AH)", {Kind: api.Idx, Reg: api.IY, N: 9}: "(IY+9)",
		{Kind: api.Idx, Reg: api.AF, N: 1}: "", {Kind: api.Idx, Reg: api.AF2, N: 1}: "", {Kind: api.Idx, N: 1}: "", {Kind: api.Idx, Reg: api.HL}: "",
		{Kind: api.Imm}: "0", {Kind: api.Imm, N: 9}: "9", {Kind: api.Imm, N: 10}: "0AH", {Kind: api.Imm, N: 16}: "10H", {Kind: api.Imm, N: 65535}: "0FFFFH", {Kind: api.Imm, N: 65536}: "",
		{Kind: api.Imm, N: -1}: "-1", {Kind: api.Imm, N: -9}: "-9", {Kind: api.Imm, N: -10}: "-0AH", {Kind: api.Imm, N: -171}: "-0ABH",
		{Kind: api.Imm, N: -32767}: "-7FFFH", {Kind: api.Imm, N: -32768}: "-8000H", {Kind: api.Imm, N: -32769}: "",
		{Kind: api.Mem}: "(0)", {Kind: api.Mem, N: 0x1234}: "(1234H)", {Kind: api.Mem, N: 65535}: "(0FFFFH)", {Kind: api.Mem, N: 65536}: "", {Kind: api.Mem, N: -1}: "",
		{Kind: api.Cond, Reg: api.NZ}: "NZ", {Kind: api.Cond, Reg: api.CY}: "C", {Kind: api.Cond, Reg: api.M}: "M", {Kind: api.Cond, Reg: 8}: "", {Kind: api.Cond, Reg: -1}: "",
		{Kind: api.Ctl, Reg: api.RegI}: "I", {Kind: api.Ctl, Reg: api.RegR}: "R", {Kind: api.Ctl, Reg: 2}: "", {Kind: api.Ctl, Reg: -1}: "",
		{Kind: api.Rel}: "$+2", {Kind: api.Rel, N: -1}: "$+1", {Kind: api.Rel, N: -2}: "$+0", {Kind: api.Rel, N: -3}: "$-1", {Kind: api.Rel, N: -11}: "$-9", {Kind: api.Rel, N: -12}: "$-0AH",
		{Kind: api.Rel, N: 7}: "$+9", {Kind: api.Rel, N: 8}: "$+0AH", {Kind: api.Rel, N: 126}: "$+80H", {Kind: api.Rel, N: 127}: "$+81H", {Kind: api.Rel, N: 128}: "",
		{Kind: api.Rel, N: -128}: "$-7EH", {Kind: api.Rel, N: -129}: "", {Kind: api.Rel, N: -130}: "",
	} {
		if formOf(o) != want {
			t.Errorf("the model has %q for %v; want %q", formOf(o), o, want)
		}
		wantOperand(t, o)
	}
}

// P6.1, P6.3: all kinds and registers at and beside their ends, with numbers
// at and beside theirs; also kinds that there are none of.
func TestTextOfAllFields(t *testing.T) {
	l := numbers()
	valid := 0
	for _, kind := range l {
		for _, reg := range l {
			for _, n := range l {
				o := api.Operand{Kind: kind, Reg: reg, N: n}
				wantOperand(t, o)
				if operand.Valid(o) {
					valid++
				}
			}
		}
		stopIfFailed(t)
	}
	if valid < len(registers) {
		t.Errorf("only %d operands are valid", valid)
	}
}

// P6.1: all numbers of the kinds that have one, and beyond both ends.
func TestTextOfAllNumbers(t *testing.T) {
	for n := -70000; n <= 70000; n++ {
		for _, o := range []api.Operand{
			{Kind: api.Idx, Reg: api.IX, N: n}, {Kind: api.Idx, Reg: api.IY, N: n},
			{Kind: api.Imm, N: n}, {Kind: api.Mem, N: n}, {Kind: api.Rel, N: n},
		} {
			wantOperand(t, o)
		}
		stopIfFailed(t)
	}
}

// P6.1: a field that a kind does not name makes an operand wrong, if it is
// not 0.
func TestFieldsThatAreNotNamed(t *testing.T) {
	for o := range registers {
		for _, n := range numbers() {
			wrong := o
			wrong.N = n
			if got := operand.Valid(wrong); got != (n == 0) {
				t.Errorf("Valid(%v) = %v; want %v", wrong, got, n == 0)
			}
			wantOperand(t, wrong)
		}
	}
	for _, kind := range []int{api.Imm, api.Mem, api.Rel} {
		for _, reg := range numbers() {
			for _, n := range []int{0, 1, 5, 127} {
				o := api.Operand{Kind: kind, Reg: reg, N: n}
				if got := operand.Valid(o); got != (reg == 0) {
					t.Errorf("Valid(%v) = %v; want %v", o, got, reg == 0)
				}
				wantOperand(t, o)
			}
		}
	}
}

// P6.1: no, one and several operands, valid or not.
func TestList(t *testing.T) {
	a, c := api.Operand{Kind: api.R8, Reg: api.A}, api.Operand{Kind: api.Cond, Reg: api.CY}
	idx, wrong := api.Operand{Kind: api.Idx, Reg: api.IY, N: -5}, api.Operand{Kind: api.R8, Reg: 6}
	for _, l := range []struct {
		want string
		args []api.Operand
	}{
		{"", nil}, {"", []api.Operand{}}, {"A", []api.Operand{a}}, {"", []api.Operand{wrong}},
		{"A,C", []api.Operand{a, c}}, {"C,A", []api.Operand{c, a}}, {"A,A,A", []api.Operand{a, a, a}},
		{"(IY-5),A", []api.Operand{idx, a}}, {",", []api.Operand{wrong, {}}}, {",A", []api.Operand{wrong, a}}, {"A,", []api.Operand{a, wrong}},
		{"A,,C", []api.Operand{a, wrong, c}}, {",,", []api.Operand{wrong, wrong, wrong}}, {"A,C,(IY-5),,-1", []api.Operand{a, c, idx, wrong, {Kind: api.Imm, N: -1}}},
	} {
		before := slices.Clone(l.args)
		if got := operand.List(l.args...); got != l.want {
			t.Errorf("List(%v) = %q; want %q", l.args, got, l.want)
		}
		if !slices.Equal(before, l.args) {
			t.Errorf("List changed %v to %v", before, l.args)
		}
	}
}

// P6.1: lists of random operands have their forms in order.
func TestListOfMany(t *testing.T) {
	r := rand.New(rand.NewSource(6))
	for range 2000 {
		var l []api.Operand
		var want []string
		for range r.Intn(9) {
			o := api.Operand{Kind: r.Intn(12), Reg: r.Intn(9)}
			if r.Intn(2) == 0 {
				o.N = r.Intn(300) - 150
			}
			l = append(l, o)
			want = append(want, formOf(o))
		}
		if got := operand.List(l...); got != strings.Join(want, ",") {
			t.Fatalf("List(%v) = %q; want %q", l, got, strings.Join(want, ","))
		}
	}
	a := slices.Repeat([]api.Operand{{Kind: api.R8, Reg: api.A}}, 100000)
	if got := operand.List(a...); got != strings.Repeat("A,", 99999)+"A" {
		t.Errorf("List of 100000 operands has %d bytes", len(got))
	}
}

// named has all names with the operands that they denote.
var named = map[string][]api.Operand{
	"A": {{Kind: 1, Reg: 7}}, "B": {{Kind: 1, Reg: 0}}, "C": {{Kind: 1, Reg: 1}, {Kind: 8, Reg: 3}}, "D": {{Kind: 1, Reg: 2}},
	"E": {{Kind: 1, Reg: 3}}, "H": {{Kind: 1, Reg: 4}}, "L": {{Kind: 1, Reg: 5}},
	"IXH": {{Kind: 2, Reg: 0}}, "IXL": {{Kind: 2, Reg: 1}}, "IYH": {{Kind: 2, Reg: 2}}, "IYL": {{Kind: 2, Reg: 3}},
	"BC": {{Kind: 3, Reg: 0}}, "DE": {{Kind: 3, Reg: 1}}, "HL": {{Kind: 3, Reg: 2}}, "SP": {{Kind: 3, Reg: 3}},
	"AF": {{Kind: 3, Reg: 4}}, "IX": {{Kind: 3, Reg: 5}}, "IY": {{Kind: 3, Reg: 6}}, "AF'": {{Kind: 3, Reg: 7}},
	"NZ": {{Kind: 8, Reg: 0}}, "Z": {{Kind: 8, Reg: 1}}, "NC": {{Kind: 8, Reg: 2}},
	"PO": {{Kind: 8, Reg: 4}}, "PE": {{Kind: 8, Reg: 5}}, "P": {{Kind: 8, Reg: 6}}, "M": {{Kind: 8, Reg: 7}},
	"I": {{Kind: 9, Reg: 0}}, "R": {{Kind: 9, Reg: 1}},
}

func wantNamed(t *testing.T, name string, want []api.Operand) {
	t.Helper()
	if got := operand.Named(name); !slices.Equal(got, want) {
		t.Errorf("Named(%q) = %v; want %v", name, got, want)
	}
	if got := operand.Reserved(name); got != (len(want) > 0) {
		t.Errorf("Reserved(%q) = %v; want %v", name, got, len(want) > 0)
	}
}

// cases returns a word with each choice of capital and small letters.
func cases(word string) []string {
	l := []string{""}
	for i := range len(word) {
		var next []string
		for _, s := range l {
			next = append(next, s+strings.ToUpper(word[i:i+1]), s+strings.ToLower(word[i:i+1]))
		}
		l = next
	}
	return l
}

// P6.2: every name in capital, small and mixed letters.
func TestNamed(t *testing.T) {
	for name, want := range named {
		for _, word := range cases(name) {
			wantNamed(t, word, want)
		}
	}
	c := []api.Operand{{Kind: api.R8, Reg: api.C}, {Kind: api.Cond, Reg: api.CY}}
	wantNamed(t, "c", c)
	wantNamed(t, "C", c)
}

// P6.2: texts that are no names, among them the forms of other kinds, and
// letters that only some rules of case take for letters from A to Z.
func TestNamedOfNoNames(t *testing.T) {
	for _, word := range []string{
		"", " ", "(", ")", "()", "'", "F", "f'", "A'", "AF''", "af`", "AF\u2019", "AF2", "a f", "G", "J", "K", "N", "O", "Q", "S", "T", "X", "Y",
		"CY", "PC", "XY", "IXX", "XH", "HX", "YL", "IH", "IL", "LX", "IXH'", "IXHL", "HLIX", "BCDE", "BB", "CC", "ZZ", "NN", "PP", "PO PE", "CB", "ED", "LH", "FA", "PS",
		"(HL)", "(C)", "(c)", "(BC)", "(IX)", "(IX+0)", "IX+0", "(IY-80H)", "0", "1", "-1", "0AH", "10", "(0)", "$", "$+0", "$+2", "$-1",
		" A", "A ", "\tA", "A\n", "\nA", "A\r", "A\x00", "\x00A", "\x00", "A,", ",A", "A.", "A,B", "B,C", "-", "*", "%", "^A$", ".", "[A-Z]", "?",
		"LD", "ADC", "NOP", "EQU", "ORG", "label", "_A", "A_", "A:", "@", "`", "[", "{",
		"\u017fp", "s\u0440", "\u0131x", "\u0130X", "\uff21", "\u0410", "\u212a", "\u00e1", "a\u0301", "\xe1", "\xff", "\xc1", "A\xcc", "\x81", "\xc3",
		strings.Repeat("A", 100000), strings.Repeat("a", 4), "A" + strings.Repeat(" ", 1000), strings.Repeat("\x00", 1000) + "A",
	} {
		wantNamed(t, word, nil)
	}
}

// P6.2: all texts of up to two bytes, and all of three letters and signs that
// the names consist of.
func TestNamedOfAllShortTexts(t *testing.T) {
	for a := range 256 {
		word := string([]byte{byte(a)})
		wantNamed(t, word, named[asciiUpper(word)])
		for b := range 256 {
			word := string([]byte{byte(a), byte(b)})
			wantNamed(t, word, named[asciiUpper(word)])
		}
		stopIfFailed(t)
	}
	const signs = "ABCDEFHILMNOPRSXYZabcdefhilmnoprsxyz'`(1 "
	for _, a := range signs {
		for _, b := range signs {
			for _, c := range signs {
				word := string([]rune{a, b, c})
				wantNamed(t, word, named[asciiUpper(word)])
			}
		}
		stopIfFailed(t)
	}
}

// asciiUpper returns a text with capital letters instead of a to z.
func asciiUpper(s string) string {
	b := []byte(s)
	for i, c := range b {
		if 'a' <= c && c <= 'z' {
			b[i] = c - 32
		}
	}
	return string(b)
}

// P6.2: all names, in capital letters, in ascending order of bytes.
func TestNames(t *testing.T) {
	want := []string{
		"A", "AF", "AF'", "B", "BC", "C", "D", "DE", "E", "H", "HL", "I", "IX", "IXH", "IXL", "IY", "IYH", "IYL",
		"L", "M", "NC", "NZ", "P", "PE", "PO", "R", "SP", "Z",
	}
	if got := operand.Names(); !slices.Equal(got, want) {
		t.Errorf("Names() = %q; want %q", got, want)
	}
	for _, name := range operand.Names() {
		wantNamed(t, name, named[name])
	}
	if len(named) != len(want) {
		t.Errorf("the test has %d names; want %d", len(named), len(want))
	}
}

// P6.2: a result may be changed without an effect on later ones.
func TestResultsAreNew(t *testing.T) {
	first, other := operand.Names(), operand.Names()
	for i := range first {
		first[i] = "changed"
	}
	if slices.Contains(other, "changed") || slices.Contains(operand.Names(), "changed") {
		t.Error("Names returned the same memory twice")
	}
	for name, want := range named {
		first, other := operand.Named(name), operand.Named(name)
		for i := range first {
			first[i] = api.Operand{Kind: 99}
		}
		if !slices.Equal(other, want) {
			t.Errorf("Named(%q) returned the same memory twice", name)
		}
		wantNamed(t, name, want)
	}
}

// P6.3: IX and IY, their halves, Ind and Idx with them, and no others.
func TestIndex(t *testing.T) {
	for o, want := range map[api.Operand]int{
		{Kind: api.R16, Reg: api.IX}: api.IX, {Kind: api.R16, Reg: api.IY}: api.IY,
		{Kind: api.RX, Reg: api.IXH}: api.IX, {Kind: api.RX, Reg: api.IXL}: api.IX,
		{Kind: api.RX, Reg: api.IYH}: api.IY, {Kind: api.RX, Reg: api.IYL}: api.IY,
		{Kind: api.Ind, Reg: api.IX}: api.IX, {Kind: api.Ind, Reg: api.IY}: api.IY,
		{Kind: api.Idx, Reg: api.IX}: api.IX, {Kind: api.Idx, Reg: api.IY}: api.IY,
		{Kind: api.Idx, Reg: api.IX, N: -128}: api.IX, {Kind: api.Idx, Reg: api.IY, N: -128}: api.IY,
		{Kind: api.Idx, Reg: api.IX, N: 127}: api.IX, {Kind: api.Idx, Reg: api.IY, N: 127}: api.IY,
		{Kind: api.Idx, Reg: api.IX, N: 128}: 0, {Kind: api.Idx, Reg: api.IY, N: -129}: 0, {Kind: api.Idx, Reg: api.HL, N: 1}: 0, {Kind: api.Idx, Reg: api.IndC}: 0,
		{Kind: api.R16, Reg: api.IX, N: 1}: 0, {Kind: api.R16, Reg: api.IY, N: -1}: 0, {Kind: api.Ind, Reg: api.IX, N: 1}: 0, {Kind: api.Ind, Reg: api.IY, N: 5}: 0,
		{Kind: api.RX, Reg: api.IXH, N: 1}: 0, {Kind: api.RX, Reg: 4}: 0, {Kind: api.RX, Reg: 5}: 0, {Kind: api.RX, Reg: 6}: 0, {Kind: api.RX, Reg: -1}: 0,
		{Kind: api.R16, Reg: api.HL}: 0, {Kind: api.R16, Reg: api.AF2}: 0, {Kind: api.R16, Reg: api.AF}: 0, {Kind: api.Ind, Reg: api.HL}: 0, {Kind: api.Ind, Reg: api.IndC}: 0,
		{Kind: api.R8, Reg: 5}: 0, {Kind: api.R8, Reg: 6}: 0, {Kind: api.R8}: 0, {Kind: api.Cond, Reg: 5}: 0, {Kind: api.Cond, Reg: 6}: 0,
		{Kind: api.Ctl}: 0, {Kind: api.Ctl, Reg: 5}: 0, {Kind: api.Imm, N: 5}: 0, {Kind: api.Imm, N: 6}: 0, {Kind: api.Imm, Reg: 5}: 0,
		{Kind: api.Mem, N: 5}: 0, {Kind: api.Mem, Reg: 6}: 0, {Kind: api.Rel, N: 5}: 0, {Kind: api.Rel, Reg: 5}: 0,
		{}: 0, {Reg: 5}: 0, {Reg: 6}: 0, {Kind: 11, Reg: 5}: 0, {Kind: -5, Reg: 5}: 0,
	} {
		if got := operand.Index(o); got != want {
			t.Errorf("Index(%v) = %d; want %d", o, got, want)
		}
	}
}

// P6.4: in a kind, no two valid operands have the same form.
func TestFormsOfAKindAreDifferent(t *testing.T) {
	for kind := -1; kind <= 12; kind++ {
		seen := map[string]api.Operand{}
		for reg := -2; reg <= 10; reg++ {
			for n := -33000; n <= 66000; n++ {
				o := api.Operand{Kind: kind, Reg: reg, N: n}
				if !operand.Valid(o) {
					continue
				}
				form := operand.Text(o)
				if other, ok := seen[form]; ok || form == "" {
					t.Fatalf("%v and %v have the form %q", other, o, form)
				}
				seen[form] = o
			}
		}
	}
}

// P6.4: each name denotes one operand, but for C; the form of each of them is
// the name.
func TestNamesDenoteOneOperand(t *testing.T) {
	for _, name := range operand.Names() {
		l := operand.Named(name)
		want := 1
		if name == "C" {
			want = 2
		}
		if len(l) != want {
			t.Errorf("%s denotes %v; want %d of them", name, l, want)
		}
		for _, o := range l {
			if !operand.Valid(o) || operand.Text(o) != name {
				t.Errorf("%s denotes %v with the form %q", name, o, operand.Text(o))
			}
		}
	}
	for o, form := range registers {
		isName := o.Kind != api.Ind
		if got := slices.Contains(operand.Named(form), o); got != isName {
			t.Errorf("Named(%q) has %v: %v; want %v", form, o, got, isName)
		}
	}
}

// Rule 6: the functions may be called concurrently.
func TestConcurrentCalls(t *testing.T) {
	var group sync.WaitGroup
	for g := range 8 {
		group.Add(1)
		go func() {
			defer group.Done()
			for n := -200; n <= 200; n++ {
				wantOperand(t, api.Operand{Kind: api.Idx, Reg: 5 + g%2, N: n})
				wantOperand(t, api.Operand{Kind: api.Imm, N: n * g})
				wantNamed(t, "ixh", named["IXH"])
				if l := operand.Names(); len(l) != 28 {
					t.Errorf("Names has %d names", len(l))
				}
			}
		}()
	}
	group.Wait()
}
