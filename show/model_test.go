package show_test

import (
	"fmt"
	"math/rand"
	"slices"
	"strings"
	"testing"

	"breadboard/api"
	"breadboard/canon"
	"breadboard/encode"
	"breadboard/instr"
	"breadboard/items"
	"breadboard/search"
	"breadboard/show"
	"breadboard/table"
)

// numberText writes a number that is not negative as the document does.
func numberText(n int) string {
	if n < 10 {
		return fmt.Sprint(n)
	}
	digits := fmt.Sprintf("%XH", n)
	if digits[0] >= 'A' {
		return "0" + digits
	}
	return digits
}

func signedText(n int) string {
	if n < 0 {
		return "-" + numberText(-n)
	}
	return "+" + numberText(n)
}

// operandText writes an operand of a legal instruction, whose Imm is not
// negative.
func operandText(o api.Operand) string {
	pairs := []string{"BC", "DE", "HL", "SP", "AF", "IX", "IY", "AF'", "C"}
	switch o.Kind {
	case api.R8:
		return "BCDEHL?A"[o.Reg : o.Reg+1]
	case api.RX:
		return []string{"IXH", "IXL", "IYH", "IYL"}[o.Reg]
	case api.R16:
		return pairs[o.Reg]
	case api.Ind:
		return "(" + pairs[o.Reg] + ")"
	case api.Idx:
		return "(" + pairs[o.Reg] + signedText(o.N) + ")"
	case api.Imm:
		return numberText(o.N)
	case api.Mem:
		return "(" + numberText(o.N) + ")"
	case api.Cond:
		return []string{"NZ", "Z", "NC", "C", "PO", "PE", "P", "M"}[o.Reg]
	case api.Ctl:
		return "IR"[o.Reg : o.Reg+1]
	}
	return "$" + signedText(o.N+2)
}

// instrText writes a legal instruction in its canonical form.
func instrText(i api.Instr) string {
	var l []string
	for _, o := range i.Args {
		l = append(l, operandText(o))
	}
	return strings.TrimSuffix(i.Op+" "+strings.Join(l, ","), " ")
}

func dataText(b []byte) string {
	var l []string
	for _, n := range b {
		l = append(l, numberText(int(n)))
	}
	return "DEFB " + strings.Join(l, ",")
}

// itemText writes an item that some bytes have.
func itemText(x api.Item) string {
	if x.Kind != api.Code1 || x.Alias {
		return dataText(x.Raw)
	}
	return instrText(x.Instr)
}

// rowText writes the row of an item that some bytes have.
func rowText(addr int, x api.Item) string {
	row := fmt.Sprintf("%-16s  %s", fmt.Sprintf("%04X  % X", addr, x.Raw), itemText(x))
	if x.Alias {
		row += "  ; " + instrText(x.Instr)
	}
	return row
}

// samples returns numbers that the other operand of an entry can have.
func samples(e table.Entry) []int {
	switch {
	case strings.Contains(e.Extra, "e"):
		return []int{-128, -127, -3, -2, -1, 0, 7, 8, 127}
	case strings.Contains(e.Extra, "n"):
		return []int{0, 1, 9, 10, 127, 128, 159, 160, 255}
	case strings.Contains(e.Extra, "w"):
		return []int{0, 9, 10, 255, 256, 4095, 4096, 4660, 32767, 32768, 40959, 40960, 65535}
	}
	return []int{0}
}

// displacements returns displacements that an entry can have.
func displacements(e table.Entry) []int {
	if strings.Contains(e.Extra, "d") {
		return []int{-128, -10, -9, -1, 0, 5, 10, 127}
	}
	return []int{0}
}

// P15.1 to P15.3: the instructions and items of all entries.
func TestEntries(t *testing.T) {
	for _, e := range table.Entries() {
		for _, d := range displacements(e) {
			for _, n := range samples(e) {
				i, ok := search.Fill(e, d, n)
				raw, made := encode.Bytes(e, d, n)
				if !ok || !made {
					t.Fatalf("%v with %d and %d has no instruction", e, d, n)
				}
				if got := show.Instr(i); got != instrText(i) {
					t.Errorf("Instr(%v) = %q, want %q", i, got, instrText(i))
				}
				x := api.Item{Kind: api.Code1, Raw: raw, Instr: i, Alias: e.Alias}
				if got := show.Item(x); got != itemText(x) {
					t.Errorf("Item(%v) = %q, want %q", x, got, itemText(x))
				}
				if got := show.Row(0xA0B1, x); got != rowText(0xA0B1, x) {
					t.Errorf("Row(%v) = %q, want %q", x, got, rowText(0xA0B1, x))
				}
				stopIfFailed(t)
			}
		}
	}
}

// someOperands returns operands of all kinds, with numbers at and beside the
// ends of ranges, also some that are not valid.
func someOperands() []api.Operand {
	l := []api.Operand{{Kind: api.R8, Reg: api.A, N: 1}, {Kind: api.Imm, Reg: 1}, {}}
	for _, c := range []struct{ kind, regs int }{{api.R8, 8}, {api.RX, 4}, {api.R16, 8}, {api.Ind, 9}, {api.Cond, 8}, {api.Ctl, 2}} {
		for reg := range c.regs + 1 {
			l = append(l, api.Operand{Kind: c.kind, Reg: reg})
		}
	}
	for _, n := range []int{-128, 0, 127, 128} {
		l = append(l, idx(api.IX, n), rel(n))
	}
	for _, n := range []int{0, 255, 256, 65535} {
		l = append(l, mem(n))
	}
	for _, n := range []int{-32768, -128, -1, 0, 2, 8, 255, 256, 65535} {
		l = append(l, imm(n))
	}
	return append(l, idx(api.IY, -1))
}

// mnemonics returns all mnemonics, and words beside them.
func mnemonics() []string { return append(instr.Ops(), "", "ld", "Add", "DEFB", "LDX") }

// someInstrs visits instructions with each mnemonic and up to two operands of
// all kinds, and with three operands of some.
func someInstrs(yield func(i api.Instr) bool) {
	operands := someOperands()
	for _, op := range mnemonics() {
		if !yield(of(op)) {
			return
		}
		for _, a := range operands {
			if !yield(of(op, a)) {
				return
			}
		}
	}
	for _, op := range []string{"LD", "ADD", "ADC", "SBC", "SUB", "AND", "XOR", "OR", "CP", "EX", "JP", "JR", "CALL", "RET", "IN", "OUT", "BIT", "RES", "SET", "RLC", "SLL", "INC", "nop"} {
		for _, a := range operands {
			for _, b := range operands {
				if !yield(of(op, a, b)) {
					return
				}
			}
		}
	}
	for _, op := range []string{"RES", "SET", "BIT", "LD", "ADD"} {
		for _, n := range []int{-1, 0, 7, 8} {
			for _, d := range []int{-129, -1, 0, 127} {
				for _, c := range operands {
					if !yield(of(op, imm(n), idx(api.IX, d), c)) {
						return
					}
				}
			}
		}
	}
}

// keyOf returns a text that is the same for the same instructions only.
func keyOf(i api.Instr) string { return fmt.Sprintf("%q %v", i.Op, i.Args) }

// P15.1 and P15.4: legal instructions have the texts of their canonical forms,
// which no other form has, and all others have none.
func TestTextsAndForms(t *testing.T) {
	t.Parallel()
	formOf := map[string]string{}
	legal, synonyms := 0, 0
	for i := range someInstrs {
		got := show.Instr(i)
		if !search.Legal(i) {
			if got != "" {
				t.Fatalf("Instr(%v) = %q, though it is not legal", i, got)
			}
			continue
		}
		legal++
		form := canon.Of(i)
		if !instr.Same(form, i) {
			synonyms++
		}
		if got != instrText(form) {
			t.Fatalf("Instr(%v) = %q, want %q", i, got, instrText(form))
		}
		if key, known := formOf[got]; known && key != keyOf(form) {
			t.Fatalf("%q is the text of %s and of %s", got, key, keyOf(form))
		}
		formOf[got] = keyOf(form)
	}
	if legal < 1000 || synonyms < 100 || len(formOf) < 1000 {
		t.Errorf("only %d instructions are legal, %d of which are no canonical forms, with %d texts", legal, synonyms, len(formOf))
	}
}

// within returns whether a number is in a range.
func within(least, most int) func(n int) bool {
	return func(n int) bool { return least <= n && n <= most }
}

// P15.4: the text of each number that an operand can have is another one, but
// for those of the same canonical form.
func TestAllNumbers(t *testing.T) {
	t.Parallel()
	for _, c := range []struct {
		with        func(n int) api.Instr
		least, most int
		isLegal     func(n int) bool
		different   int
	}{
		{func(n int) api.Instr { return of("LD", reg8(api.B), imm(n)) }, -130, 257, within(-128, 255), 256},
		{func(n int) api.Instr { return of("SUB", reg8(api.A), imm(n)) }, -130, 257, within(-128, 255), 256},
		{func(n int) api.Instr { return of("LD", reg8(api.A), idx(api.IX, n)) }, -130, 129, within(-128, 127), 256},
		{func(n int) api.Instr { return of("JR", cond(api.CY), rel(n)) }, -130, 129, within(-128, 127), 256},
		{func(n int) api.Instr { return of("IN", reg8(api.A), mem(n)) }, -2, 257, within(0, 255), 256},
		{func(n int) api.Instr { return of("RST", imm(n)) }, -10, 70, func(n int) bool { return n&^56 == 0 }, 8},
		{func(n int) api.Instr { return of("JP", imm(n)) }, -32770, 65537, within(-32768, 65535), 65536},
	} {
		formOf := map[string]string{}
		for n := c.least; n <= c.most; n++ {
			i := c.with(n)
			text, form := show.Instr(i), canon.Of(i)
			if !c.isLegal(n) {
				if text != "" {
					t.Fatalf("Instr(%v) = %q, though it is not legal", i, text)
				}
				continue
			}
			if text != instrText(form) {
				t.Fatalf("Instr(%v) = %q, want %q", i, text, instrText(form))
			}
			if other, known := formOf[text]; known && other != keyOf(form) {
				t.Fatalf("%q is the text of %s and of %s", text, other, keyOf(form))
			}
			formOf[text] = keyOf(form)
		}
		if len(formOf) != c.different {
			t.Errorf("%s has %d texts, want %d", c.with(0).Op, len(formOf), c.different)
		}
	}
}

// checkItems compares the texts and rows of the items of some bytes.
func checkItems(t *testing.T, addr int, b []byte) {
	t.Helper()
	l := items.Decode(b)
	var texts []string
	rows, at := "", addr
	for _, x := range l {
		texts = append(texts, itemText(x))
		if at <= 65535 {
			rows += rowText(at, x) + "\n"
		}
		at += len(x.Raw)
	}
	if got := show.Items(l...); !slices.Equal(got, texts) {
		t.Errorf("Items of % X are %q, want %q", b, got, texts)
	}
	if got := show.Table(addr, l...); got != rows {
		t.Errorf("Table(%d) of % X is %q, want %q", addr, b, got, rows)
	}
	if len(b) > 0 {
		if got := show.Data(b...); got != dataText(b) {
			t.Errorf("Data(% X) = %q, want %q", b, got, dataText(b))
		}
	}
	stopIfFailed(t)
}

// P15.1 to P15.3: one byte with each value, and prefixes with each byte behind
// them.
func TestFewBytes(t *testing.T) {
	t.Parallel()
	for x := range 256 {
		for _, prefix := range []string{"", "\xCB", "\xED", "\xDD", "\xFD"} {
			for _, rest := range []string{"", "\x05", "\xFE\x46", "\x80\x6E\x00"} {
				checkItems(t, 65530+x%8, []byte(prefix+string([]byte{byte(x)})+rest))
			}
		}
		for _, prefix := range []string{"\xDD\xCB", "\xFD\xCB"} {
			checkItems(t, x, append([]byte(prefix), byte(x)))
			checkItems(t, 256*x, append([]byte(prefix), byte(-x), byte(x)))
		}
	}
}

// P15.1 to P15.3: random bytes, mostly with prefixes, at any address.
func TestRandom(t *testing.T) {
	t.Parallel()
	r := rand.New(rand.NewSource(15))
	for range 1500 {
		b := make([]byte, r.Intn(24))
		for k := range b {
			b[k] = byte(r.Intn(256))
			if r.Intn(4) == 0 {
				b[k] = "\xCB\xDD\xED\xFD"[r.Intn(4)]
			}
		}
		addr := r.Intn(65536)
		if r.Intn(3) == 0 {
			addr = 65535 - r.Intn(len(b)+1)
		}
		checkItems(t, addr, b)
	}
}
