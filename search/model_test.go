package search_test

import (
	"math"
	"slices"
	"strconv"
	"strings"
	"testing"

	"breadboard/api"
	"breadboard/canon"
	"breadboard/instr"
	"breadboard/search"
	"breadboard/table"
)

// byOp has all entries of the table by their mnemonics, in the table's order.
type byOp map[string][]table.Entry

func entries() byOp {
	m := byOp{}
	for _, e := range table.Entries() {
		m[e.Instr.Op] = append(m[e.Instr.Op], e)
	}
	return m
}

// span returns the bounds of the number that an operand of an entry can have.
func span(e table.Entry, k int) (least, most int) {
	o := e.Instr.Args[k]
	isLast := !slices.ContainsFunc(e.Instr.Args[k+1:], isNumber)
	switch {
	case o.Kind == api.Idx && strings.Contains(e.Extra, "d"), o.Kind == api.Rel && strings.Contains(e.Extra, "e"):
		return -128, 127
	case isNumber(o) && isLast && strings.Contains(e.Extra, "n"):
		return 0, 255
	case isNumber(o) && isLast && strings.Contains(e.Extra, "w"):
		return 0, 65535
	}
	return o.N, o.N
}

func isNumber(o api.Operand) bool { return o.Kind == api.Imm || o.Kind == api.Mem }

// hasShape reports whether an entry has the shape of a canonical form.
func hasShape(e table.Entry, form api.Instr) bool {
	if e.Instr.Op != form.Op || len(e.Instr.Args) != len(form.Args) {
		return false
	}
	for k, o := range form.Args {
		if w := e.Instr.Args[k]; o.Kind != w.Kind || o.Reg != w.Reg {
			return false
		}
	}
	return true
}

// hasEntry reports whether a canonical form has an entry.
func hasEntry(e table.Entry, form api.Instr) bool {
	if !hasShape(e, form) {
		return false
	}
	for k, o := range form.Args {
		if least, most := span(e, k); o.N < least || o.N > most {
			return false
		}
	}
	return true
}

// values returns the values of an entry that a canonical form has.
func values(e table.Entry, form api.Instr) (d, n int) {
	for k, o := range form.Args {
		least, most := span(e, k)
		switch {
		case least == most:
		case o.Kind == api.Idx:
			d = o.N
		default:
			n = o.N
		}
	}
	return d, n
}

// check compares what the package says of an instruction with the model. It
// returns whether the instruction is legal.
func check(t *testing.T, m byOp, i api.Instr) bool {
	t.Helper()
	form := canon.Of(i)
	var all []table.Entry
	var first table.Entry
	code := api.ErrShape
	for _, e := range m[form.Op] {
		if !hasShape(e, form) {
			continue
		}
		if code == api.ErrShape && !e.Alias {
			code = api.ErrRange
		}
		isOne := hasEntry(e, form)
		checkEntry(t, e, i, form, isOne)
		if isOne {
			all = append(all, e)
		}
		if isOne && !e.Alias {
			first, code = e, api.OK
		}
	}
	if mistake := instr.Check(i); mistake != api.OK {
		first, code = table.Entry{}, mistake
	}
	if e, c := search.Find(i); c != code || !isSameEntry(e, first) {
		t.Errorf("Find(%v) = %v, %v, want %v, %v", i, e, c, first, code)
	}
	if l := search.All(i); !slices.EqualFunc(l, all, isSameEntry) {
		t.Errorf("All(%v) = %s, want %s", i, names(l), names(all))
	}
	if search.Legal(i) != (code == api.OK) {
		t.Errorf("Legal(%v) is %t", i, code != api.OK)
	}
	return code == api.OK
}

// checkEntry compares what the package says of an instruction and an entry of
// its shape.
func checkEntry(t *testing.T, e table.Entry, i, form api.Instr, isOne bool) {
	t.Helper()
	d, n := search.Values(e, i)
	if !isOne {
		if search.Fits(e, i) || d != 0 || n != 0 {
			t.Errorf("%v has the entry %s, or the values %d and %d", i, name(e), d, n)
		}
		return
	}
	wantD, wantN := values(e, form)
	if !search.Fits(e, i) || d != wantD || n != wantN {
		t.Errorf("%v has not the entry %s, or the values %d and %d instead of %d and %d", i, name(e), d, n, wantD, wantN)
	}
	if filled, ok := search.Fill(e, d, n); !ok || !instr.Same(filled, form) {
		t.Errorf("Fill(%s, %d, %d) = %v, %t, want %v", name(e), d, n, filled, ok, form)
	}
}

// samples returns operands of all kinds with registers, with each of them.
func samples() []api.Operand {
	var l []api.Operand
	for _, kind := range []int{api.R8, api.RX, api.R16, api.Ind, api.Cond, api.Ctl} {
		for reg := range []int{api.R8: 8, api.RX: 4, api.R16: 8, api.Ind: 9, api.Cond: 8, api.Ctl: 2}[kind] {
			l = append(l, api.Operand{Kind: kind, Reg: reg})
		}
	}
	return l
}

// fewSamples returns some operands of all kinds with registers.
func fewSamples() []api.Operand {
	var l []api.Operand
	for kind, regs := range [][]int{
		api.R8: {api.B, api.H, 6, api.A}, api.RX: {api.IXH, api.IYL}, api.R16: {api.BC, api.HL, api.IX}, api.Ind: {api.DE, api.HL, api.IndC, api.IY},
		api.Cond: {api.NZ, api.CY, api.PO}, api.Ctl: {api.RegR},
	} {
		for _, reg := range regs {
			l = append(l, api.Operand{Kind: kind, Reg: reg})
		}
	}
	return l
}

// numbered returns the operands of all kinds that have numbers with some of
// them.
func numbered(numbers ...int) []api.Operand {
	var l []api.Operand
	for _, n := range numbers {
		l = append(l, api.Operand{Kind: api.Idx, Reg: api.IX, N: n}, api.Operand{Kind: api.Idx, Reg: api.IY, N: n},
			api.Operand{Kind: api.Imm, N: n}, api.Operand{Kind: api.Mem, N: n}, api.Operand{Kind: api.Rel, N: n})
	}
	return l
}

// ends returns the ends of all ranges, and the numbers beside them.
func ends() []int {
	return []int{
		math.MinInt, -65537, -65536, -65535, -32769, -32768, -32767, -257, -256, -255, -129, -128, -127, -1, 0, 1, 7, 8,
		126, 127, 128, 129, 254, 255, 256, 257, 32767, 32768, 65534, 65535, 65536, 65537, math.MaxInt,
	}
}

// P10.1 to P10.4 and P10.6: each mnemonic with no operand, with one of all
// samples, and with pairs of some; and those of which most depends on both
// operands with all pairs.
func TestModel(t *testing.T) {
	t.Parallel()
	m := entries()
	found := 0
	count := func(op string, l ...api.Operand) {
		if check(t, m, instr.Make(op, l...)) {
			found++
		}
	}
	all, few := append(samples(), numbered(3, -2, 300)...), append(fewSamples(), numbered(3, -2)...)
	for _, op := range instr.Ops() {
		count(op)
		for _, o := range all {
			count(op, o)
		}
		pairs := few
		switch op {
		case "LD", "ADD", "EX":
			pairs = all
		}
		hasTwo := func(e table.Entry) bool { return len(e.Instr.Args) == 2 }
		if op != "SUB" && op != "AND" && op != "CP" && !slices.ContainsFunc(m[op], hasTwo) {
			pairs = pairs[:1]
		}
		for _, first := range pairs {
			for _, second := range pairs {
				count(op, first, second)
			}
		}
		stopIfFailed(t)
	}
	if found < 600 {
		t.Error("only", found, "instructions are legal")
	}
}

// P10.1 to P10.4: instructions with three operands.
func TestModelThree(t *testing.T) {
	t.Parallel()
	m := entries()
	found := 0
	for _, op := range []string{"RES", "SET", "BIT", "RLC", "LD"} {
		for _, first := range []api.Operand{{Kind: api.Imm}, {Kind: api.Imm, N: 7}, {Kind: api.Imm, N: 8}, {Kind: api.Imm, N: -1}, {Kind: api.R8, Reg: api.A}, {Kind: api.Mem, N: 7}} {
			for _, second := range append(numbered(-128, 127, 128), api.Operand{Kind: api.Ind, Reg: api.HL}, api.Operand{Kind: api.R8}) {
				for _, third := range []api.Operand{{Kind: api.R8, Reg: api.B}, {Kind: api.R8, Reg: api.A}, {Kind: api.R8, Reg: 6}, {Kind: api.RX, Reg: api.IXH}, {Kind: api.Ind, Reg: api.HL}, {Kind: api.Idx, Reg: api.IX}} {
					if check(t, m, instr.Make(op, first, second, third)) {
						found++
					}
				}
			}
		}
		stopIfFailed(t)
	}
	// RES and SET, of two bits, at two displacements of two registers, for two
	// registers.
	if found != 2*2*2*2*2 {
		t.Error(found, "instructions are legal")
	}
}

// P10.1, P10.2, P10.4 and P10.6: each entry with its numbers at the ends of all
// ranges and beside them.
func TestModelNumbers(t *testing.T) {
	t.Parallel()
	m := entries()
	shapes := map[string]bool{}
	for _, e := range table.Entries() {
		shape := instr.Shape(e.Instr)
		if e.Extra == "" && !hasNumber(e.Instr) || e.Page >= table.DDCB && e.Op%64 > 9 || shapes[shape] {
			continue
		}
		shapes[shape] = true
		for k, o := range e.Instr.Args {
			if !isNumber(o) && o.Kind != api.Idx && o.Kind != api.Rel {
				continue
			}
			for _, n := range ends() {
				i := instr.Make(e.Instr.Op, e.Instr.Args...)
				i.Args[k].N = n
				check(t, m, i)
			}
		}
		stopIfFailed(t)
	}
	for _, extra := range []string{"LD (IX+d),n", "LD A,(n)", "LD HL,n", "JR e", "OUT (n),A", "BIT n,A", "RST n", "OUT (C),n", "RES n,(IY+d),B"} {
		if !shapes[extra] {
			t.Error("no entry has the shape", extra)
		}
	}
}

func hasNumber(i api.Instr) bool { return slices.ContainsFunc(i.Args, isNumber) }

// P10.1: Fits and Values with entries that an instruction does not have, of all
// pages.
func TestOtherEntries(t *testing.T) {
	all := table.Entries()
	for _, c := range legal {
		i := of(t, c.text)
		form := canon.Of(i)
		for _, e := range all {
			if hasEntry(e, form) {
				continue
			}
			if d, n := search.Values(e, i); d != 0 || n != 0 || search.Fits(e, i) {
				t.Errorf("%s has the entry %s, or the values %d and %d", c.text, name(e), d, n)
			}
		}
		stopIfFailed(t)
	}
}

// P10.6: an instruction of the table has exactly one entry that is no alias,
// and this is the entry itself, if it is none.
func TestOnlyEntry(t *testing.T) {
	for _, e := range table.Entries() {
		l := search.All(e.Instr)
		isIn, others := false, 0
		for _, other := range l {
			isIn = isIn || isSameEntry(other, e)
			if !other.Alias {
				others++
			}
		}
		if !isIn || others != 1 {
			t.Errorf("All(%v) = %s", e.Instr, names(l))
		}
		got, code := search.Find(e.Instr)
		if code != api.OK || got.Alias || isSameEntry(got, e) == e.Alias {
			t.Errorf("Find(%v) = %v, %v", e.Instr, got, code)
		}
		stopIfFailed(t)
	}
}

// fill is a model of Fill.
func fill(e table.Entry, d, n int) (api.Instr, bool) {
	i := instr.Make(e.Instr.Op, e.Instr.Args...)
	hasD, hasN := false, false
	for k, o := range i.Args {
		least, most := span(e, k)
		if least == most {
			continue
		}
		number := n
		if o.Kind == api.Idx {
			number, hasD = d, true
		} else {
			hasN = true
		}
		if number < least || number > most {
			return api.Instr{}, false
		}
		i.Args[k].N = number
	}
	if d != 0 && !hasD || n != 0 && !hasN {
		return api.Instr{}, false
	}
	return i, true
}

// P10.5: each entry with numbers at the ends of all ranges and beside them, and
// with numbers that no operand has.
func TestFillNumbers(t *testing.T) {
	for _, e := range table.Entries() {
		for _, d := range ends() {
			for _, n := range []int{0, 1, -1, d, -d} {
				wanted, wantOK := fill(e, d, n)
				if i, ok := search.Fill(e, d, n); ok != wantOK || !instr.Same(i, wanted) || !ok && i.Args != nil {
					t.Errorf("Fill(%s, %d, %d) = %v, %t, want %v, %t", name(e), d, n, i, ok, wanted, wantOK)
				}
				wanted, wantOK = fill(e, n, d)
				if i, ok := search.Fill(e, n, d); ok != wantOK || !instr.Same(i, wanted) || !ok && i.Args != nil {
					t.Errorf("Fill(%s, %d, %d) = %v, %t, want %v, %t", name(e), n, d, i, ok, wanted, wantOK)
				}
			}
		}
		stopIfFailed(t)
	}
}

// P10.6: Fill with the results of Values returns the canonical form, for all
// numbers that an operand can have, and for the instructions of Fill, which
// have the entry.
func TestFillOfValues(t *testing.T) {
	t.Parallel()
	m := entries()
	for _, text := range []string{"LD (IX*),7", "LD (IY-7),#", "LD A,#", "SUB A,#", "ADD #", "LD A,(IY*)", "JR e#", "JR C,e#", "OUT (#),A", "RES 3,(IX*),L", "BIT 3,(IY*)", "SLL (IX*)"} {
		for n := -300; n <= 300; n++ {
			digits := strconv.Itoa(n)
			signed := digits
			if n >= 0 {
				signed = "+" + digits
			}
			check(t, m, of(t, strings.NewReplacer("*", signed, "#", digits).Replace(text)))
		}
		stopIfFailed(t)
	}
	for _, e := range []table.Entry{at(t, table.DD, 0x36), at(t, table.FDCB, 0xFE), at(t, table.FDCB, 0x41), at(t, table.Main, 0x21), at(t, table.ED, 0x6B), at(t, table.Main, 0x38)} {
		least, most := map[bool]int{}, map[bool]int{}
		for k, o := range e.Instr.Args {
			if first, last := span(e, k); first < last {
				least[o.Kind == api.Idx], most[o.Kind == api.Idx] = first, last
			}
		}
		for d := least[true]; d <= most[true]; d++ {
			for n := least[false]; n <= most[false]; n++ {
				i, ok := search.Fill(e, d, n)
				gotD, gotN := search.Values(e, i)
				if !ok || !search.Fits(e, i) || gotD != d || gotN != n {
					t.Fatalf("Fill(%s, %d, %d) = %v, %t, and the values are %d and %d", name(e), d, n, i, ok, gotD, gotN)
				}
			}
		}
	}
}
