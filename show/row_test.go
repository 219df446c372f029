package show_test

import (
	"math"
	"strings"
	"testing"

	"breadboard/api"
	"breadboard/show"
)

// noAddresses has numbers that are no addresses.
var noAddresses = []int{-1, -2, -16, -65535, -65536, -65537, 65536, 65537, 131071, 131072, 1 << 31, 1 << 32, 1<<32 + 5, -1 << 32, -1<<32 + 5, math.MaxInt, math.MaxInt - 1, math.MinInt, math.MinInt + 1}

// P15.3: rows of items of each kind, with one byte to four.
func TestRow(t *testing.T) {
	for _, c := range []struct {
		addr      int
		raw, want string
	}{
		{0, "00", "0000  00          NOP"}, {1, "3E 05", "0001  3E 05       LD A,5"}, {256, "21 34 12", "0100  21 34 12    LD HL,1234H"}, {65535, "FD CB FE 30", "FFFF  FD CB FE 30  SLL (IY-2),B"}, {0xABCD, "DD 36 0A FF", "ABCD  DD 36 0A FF  LD (IX+0AH),0FFH"}, {0x0A0B, "C9", "0A0B  C9          RET"}, {9, "76", "0009  76          HALT"}, {10, "76", "000A  76          HALT"}, {4095, "76", "0FFF  76          HALT"}, {65534, "87", "FFFE  87          ADD A,A"},
		// What ends behind the last address
		{65535, "21 34 12", "FFFF  21 34 12    LD HL,1234H"},
		// Strays, Holes, and beginnings of instructions
		{261, "DD", "0105  DD          DEFB 0DDH"}, {261, "ED 00", "0105  ED 00       DEFB 0EDH,0"}, {261, "CB", "0105  CB          DEFB 0CBH"}, {261, "21 34", "0105  21 34       DEFB 21H,34H"}, {261, "DD CB 05", "0105  DD CB 05    DEFB 0DDH,0CBH,5"},
		// Aliases
		{261, "ED 4C", "0105  ED 4C       DEFB 0EDH,4CH  ; NEG"}, {0, "ED 76", "0000  ED 76       DEFB 0EDH,76H  ; IM 1"}, {65535, "ED 63 34 12", "FFFF  ED 63 34 12  DEFB 0EDH,63H,34H,12H  ; LD (1234H),HL"}, {5, "DD CB FF 68", "0005  DD CB FF 68  DEFB 0DDH,0CBH,0FFH,68H  ; BIT 5,(IX-1)"},
	} {
		if got := show.Row(c.addr, itemOf(t, c.raw)); got != c.want {
			t.Errorf("Row(%d, %s) = %q, want %q", c.addr, c.raw, got, c.want)
		}
	}
}

// P15.3: rows of items that no bytes have, with other numbers of bytes.
func TestRowOfOddItems(t *testing.T) {
	neg := of("NEG")
	for _, c := range []struct {
		x    api.Item
		want string
	}{
		{api.Item{}, "0105              "}, {api.Item{Kind: api.Code1, Instr: neg}, "0105              NEG"}, {api.Item{Kind: api.Code1, Instr: neg, Alias: true}, "0105                ; NEG"},
		{api.Item{Kind: api.Code1, Raw: []byte{1}}, "0105  01          "}, {api.Item{Kind: api.Code1, Raw: []byte{1}, Instr: of("FOO"), Alias: true}, "0105  01          DEFB 1  ; "},
		{api.Item{Kind: api.Code1, Raw: []byte{1, 2}, Instr: of("SUB", reg8(api.A), imm(-1)), Alias: true}, "0105  01 02       DEFB 1,2  ; SUB 0FFH"},
		// An alias is one by its field alone, as for the text of an item
		{api.Item{Kind: api.Stray, Raw: []byte{1}, Instr: neg, Alias: true}, "0105  01          DEFB 1  ; NEG"}, {api.Item{Kind: api.Hole, Raw: []byte{1}, Instr: neg}, "0105  01          DEFB 1"},
		{api.Item{Kind: api.Stray, Raw: []byte{1, 2, 3, 4}}, "0105  01 02 03 04  DEFB 1,2,3,4"}, {api.Item{Kind: api.Stray, Raw: []byte{1, 2, 3, 4, 5}}, "0105  01 02 03 04 05  DEFB 1,2,3,4,5"}, {api.Item{Kind: api.Code1, Raw: []byte{1, 2, 3, 4, 0xFF, 6}, Instr: neg}, "0105  01 02 03 04 FF 06  NEG"}, {api.Item{Kind: 9, Raw: make([]byte, 9), Instr: neg}, "0105  00 00 00 00 00 00 00 00 00  DEFB 0,0,0,0,0,0,0,0,0"},
	} {
		if got := show.Row(0x105, c.x); got != c.want {
			t.Errorf("Row(%v) = %q, want %q", c.x, got, c.want)
		}
	}
}

// P15.3: the text begins at the column 18, or two spaces behind the bytes.
func TestColumn(t *testing.T) {
	for n, want := range []int{18, 18, 18, 18, 19, 22, 25, 28} {
		x := api.Item{Kind: api.Code1, Raw: make([]byte, n), Instr: of("NOP")}
		if got := strings.Index(show.Row(n, x), "NOP"); got != want {
			t.Errorf("the text behind %d bytes begins at the column %d, want %d", n, got, want)
		}
	}
	const many = 1 << 16
	x := api.Item{Kind: api.Code1, Raw: make([]byte, many), Instr: of("NOP")}
	if got := show.Row(0, x); got != "0000 "+strings.Repeat(" 00", many)+"  NOP" {
		t.Error("the row of very many bytes is another one")
	}
}

// P15.3: all addresses have rows, and no other numbers.
func TestAddresses(t *testing.T) {
	x := itemOf(t, "DD")
	const digits = "0123456789ABCDEF"
	for addr := range 65536 {
		hex := string([]byte{digits[addr/4096], digits[addr/256%16], digits[addr/16%16], digits[addr%16]})
		if got := show.Row(addr, x); got != hex+"  DD          DEFB 0DDH" {
			t.Fatalf("Row(%d) = %q", addr, got)
		}
	}
	for _, addr := range noAddresses {
		if got := show.Row(addr, x); got != "" {
			t.Errorf("Row(%d) = %q", addr, got)
		}
		if got := show.Row(addr, api.Item{}); got != "" {
			t.Errorf("Row(%d) = %q", addr, got)
		}
		if got := show.Table(addr, x, x, x); got != "" {
			t.Errorf("Table(%d) = %q", addr, got)
		}
		if got := show.Table(addr); got != "" {
			t.Errorf("Table(%d) = %q", addr, got)
		}
	}
}

// P15.3: tables of no items, of one and of many.
func TestTable(t *testing.T) {
	for _, addr := range []int{0, 5, 65535} {
		if got := show.Table(addr); got != "" {
			t.Errorf("Table(%d) = %q", addr, got)
		}
	}
	for _, c := range []struct {
		addr int
		raw  string // with commas between the items
		want []string
	}{
		{0, "00", []string{"0000  00          NOP"}},
		{65535, "00", []string{"FFFF  00          NOP"}},
		{256, "21 34 12,DD,00,ED 4C", []string{"0100  21 34 12    LD HL,1234H", "0103  DD          DEFB 0DDH", "0104  00          NOP", "0105  ED 4C       DEFB 0EDH,4CH  ; NEG"}},
		{0x0FFE, "3E 05,DD CB 01 A8,ED 00,C9,21 34", []string{"0FFE  3E 05       LD A,5", "1000  DD CB 01 A8  RES 5,(IX+1),B", "1004  ED 00       DEFB 0EDH,0", "1006  C9          RET", "1007  21 34       DEFB 21H,34H"}},
		// Up to the last address, and past it
		{65532, "00,00,3E 05", []string{"FFFC  00          NOP", "FFFD  00          NOP", "FFFE  3E 05       LD A,5"}}, {65532, "00,00,3E 05,00", []string{"FFFC  00          NOP", "FFFD  00          NOP", "FFFE  3E 05       LD A,5"}}, {65533, "00,00,3E 05,00", []string{"FFFD  00          NOP", "FFFE  00          NOP", "FFFF  3E 05       LD A,5"}}, {65533, "21 34 12,00,00", []string{"FFFD  21 34 12    LD HL,1234H"}}, {65535, "00,00", []string{"FFFF  00          NOP"}}, {65535, "DD CB 01 A8,DD", []string{"FFFF  DD CB 01 A8  RES 5,(IX+1),B"}},
	} {
		var l []api.Item
		for _, raw := range strings.Split(c.raw, ",") {
			l = append(l, itemOf(t, raw))
		}
		if got, want := show.Table(c.addr, l...), strings.Join(c.want, "\n")+"\n"; got != want {
			t.Errorf("Table(%d, %s) = %q, want %q", c.addr, c.raw, got, want)
		}
	}
}

// P15.3: items without bytes, which are at the address of the next one, and
// items with very many.
func TestTableOfOddItems(t *testing.T) {
	none, nop, code := api.Item{Kind: api.Stray}, itemOf(t, "00"), api.Item{Kind: api.Code1, Instr: of("NEG")}
	long := func(n int) api.Item { return api.Item{Kind: api.Code1, Raw: make([]byte, n), Instr: of("RET")} }
	row := show.Row
	for k, c := range []struct {
		addr int
		l    []api.Item
		want []string
	}{
		{5, []api.Item{none}, []string{"0005              "}},
		{5, []api.Item{none, nop, none, code, nop, code}, []string{"0005              ", "0005  00          NOP", "0006              ", "0006              NEG", "0006  00          NOP", "0007              NEG"}},
		{65535, []api.Item{none, none, nop, none, none}, []string{"FFFF              ", "FFFF              ", "FFFF  00          NOP"}},
		{0, []api.Item{long(65535), nop, nop}, []string{row(0, long(65535)), "FFFF  00          NOP"}},
		{0, []api.Item{long(65536), nop, nop}, []string{row(0, long(65536))}},
		{0, []api.Item{long(65537), none, nop}, []string{row(0, long(65537))}},
		{65535, []api.Item{long(131072), none}, []string{row(65535, long(131072))}},
		{1, []api.Item{long(65535), none, nop}, []string{row(1, long(65535))}},
		{1, []api.Item{long(65534), none, nop, none}, []string{row(1, long(65534)), "FFFF              ", "FFFF  00          NOP"}},
	} {
		if got, want := show.Table(c.addr, c.l...), strings.Join(c.want, "\n")+"\n"; got != want {
			t.Errorf("table %d is other than expected", k)
		}
	}
}

// P15.3: one item for each address, and more of them.
func TestManyItems(t *testing.T) {
	nop := itemOf(t, "00")
	l := make([]api.Item, 70000)
	for k := range l {
		l[k] = nop
	}
	for _, addr := range []int{0, 1, 60000} {
		rows := strings.SplitAfter(show.Table(addr, l...), "\n")
		if len(rows) != 65536-addr+1 || rows[len(rows)-1] != "" {
			t.Fatalf("Table(%d) of many items has %d rows", addr, len(rows)-1)
		}
		for k, row := range rows[:len(rows)-1] {
			if row != show.Row(addr+k, nop)+"\n" {
				t.Fatalf("row %d of Table(%d) is %q", k, addr, row)
			}
		}
	}
	for k := range l {
		l[k] = api.Item{}
	}
	if got := show.Table(65535, l...); got != strings.Repeat("FFFF              \n", len(l)) {
		t.Error("the table of many items without bytes is another one")
	}
}
