package decode_test

import (
	"bytes"
	"math/rand"
	"slices"
	"strings"
	"testing"

	"breadboard/api"
	"breadboard/canon"
	"breadboard/decode"
	"breadboard/encode"
	"breadboard/instr"
	"breadboard/table"
)

// byOpcode has all entries of the table by the prefixes of their pages and
// their opcodes.
type byOpcode map[string]table.Entry

// prefixes has the prefixes of the pages in their order.
var prefixes = []string{"", "\xCB", "\xED", "\xDD", "\xFD", "\xDD\xCB", "\xFD\xCB"}

func entries() byOpcode {
	m := byOpcode{}
	for _, e := range table.Entries() {
		m[prefixes[e.Page]+string([]byte{e.Op})] = e
	}
	return m
}

// first returns the first item of one or more bytes, and the number of bytes
// that it needs. It has no steps: the prefixes in front say where all is.
func (m byOpcode) first(b []byte) (api.Item, int) {
	prefix := ""
	for _, p := range prefixes {
		if strings.HasPrefix(string(b), p) && len(p) >= len(prefix) {
			prefix = p
		}
	}
	op := len(prefix)
	if op == 2 {
		op = 3 // behind the displacement
	}
	if len(b) <= op {
		return api.Item{Kind: api.Truncated, Raw: b}, op + 1
	}
	e, ok := m[prefix+string(b[op:op+1])]
	switch {
	case !ok && prefix == "\xED":
		return api.Item{Kind: api.Hole, Raw: b[:2]}, 2
	case !ok:
		return api.Item{Kind: api.Stray, Raw: b[:1]}, 1
	}
	size := op + 1 + behind(e)
	if len(b) < size {
		return api.Item{Kind: api.Truncated, Raw: b}, size
	}
	return api.Item{Kind: api.Code1, Raw: b[:size], Instr: withNumbers(e, b[:size]), Alias: e.Alias}, size
}

// behind returns the number of bytes behind the opcode of an entry.
func behind(e table.Entry) int {
	switch {
	case e.Extra == "" || e.Page >= table.DDCB:
		return 0
	case e.Extra == "w" || e.Extra == "dn":
		return 2
	}
	return 1
}

// withNumbers returns the instruction of an entry with the numbers that its
// bytes have.
func withNumbers(e table.Entry, b []byte) api.Instr {
	i := api.Instr{Op: e.Instr.Op, Args: slices.Clone(e.Instr.Args)}
	last := len(b) - 1
	switch e.Extra {
	case "d":
		i.Args[find(i, api.Idx)].N = signed(b[2])
	case "e":
		i.Args[find(i, api.Rel)].N = signed(b[last])
	case "dn":
		i.Args[find(i, api.Idx)].N = signed(b[2])
		i.Args[find(i, api.Imm)].N = int(b[3])
	case "n":
		i.Args[find(i, api.Imm, api.Mem)].N = int(b[last])
	case "w":
		i.Args[find(i, api.Imm, api.Mem)].N = int(b[last-1]) + int(b[last])*256
	}
	return i
}

// find returns the index of the last operand of some kinds.
func find(i api.Instr, kinds ...int) int {
	for k, o := range slices.Backward(i.Args) {
		if slices.Contains(kinds, o.Kind) {
			return k
		}
	}
	panic("no such operand")
}

func signed(b byte) int {
	if b >= 128 {
		return int(b) - 256
	}
	return int(b)
}

// check compares what the package says of some bytes with the model.
func (m byOpcode) check(t *testing.T, b []byte) {
	t.Helper()
	want, need := m.first(b)
	checkFirst(t, b, want, need)
	stopIfFailed(t)
}

// P12.1 to P12.3: one byte with each value.
func TestOneByte(t *testing.T) {
	m := entries()
	for op := range 256 {
		m.check(t, []byte{byte(op)})
	}
}

// P12.1 to P12.3: all pairs of bytes, alone and with bytes behind them.
func TestTwoBytes(t *testing.T) {
	t.Parallel()
	m := entries()
	for x := range 256 {
		for y := range 256 {
			for _, rest := range [][]byte{nil, {0}, {0x7F}, {0x80, 0xFF}, {0xFF, 0x80}, {0xCB, 0xDD, 0xED}} {
				m.check(t, append([]byte{byte(x), byte(y)}, rest...))
			}
		}
	}
}

// P12.1 to P12.3: prefixes with each byte behind them, and each byte behind
// this one.
func TestPrefixes(t *testing.T) {
	t.Parallel()
	m := entries()
	for _, prefix := range []string{"\xCB", "\xED", "\xDD", "\xFD"} {
		for x := range 256 {
			for y := range 256 {
				m.check(t, append([]byte(prefix), byte(x), byte(y), 0x9A))
			}
		}
	}
}

// P12.1 to P12.3: two prefixes with each displacement, and each opcode.
func TestTwoPrefixes(t *testing.T) {
	t.Parallel()
	m := entries()
	for _, prefix := range []string{"\xDD\xCB", "\xFD\xCB"} {
		for d := range 256 {
			m.check(t, append([]byte(prefix), byte(d)))
			for op := range 256 {
				m.check(t, append([]byte(prefix), byte(d), byte(op)))
			}
		}
		for op := range 256 {
			m.check(t, append([]byte(prefix), 0x80, byte(op), 0xDD, 0xCB))
		}
	}
	for _, x := range []byte{0xCB, 0xDD, 0xED, 0xFD} {
		for _, y := range []byte{0xCB, 0xDD, 0xED, 0xFD} {
			for op := range 256 {
				m.check(t, []byte{x, y, byte(op)})
				m.check(t, []byte{x, y, byte(op), 0x46})
				m.check(t, []byte{x, y, byte(op), 0x46, 0})
			}
		}
	}
}

// P12.1 and P12.3: the numbers of one entry with each letter, all of them.
func TestAllNumbers(t *testing.T) {
	t.Parallel()
	m := entries()
	for _, c := range []string{"\x21", "\x3A", "\xED\x7B", "\xED\x63", "\xDD\x22", "\xFD\x21", "\xDD\x36", "\xFD\x36"} {
		for x := range 256 {
			for y := range 256 {
				m.check(t, append([]byte(c), byte(x), byte(y)))
			}
		}
	}
	for _, c := range []string{"\x06", "\x36", "\xD3", "\xDB", "\xE6", "\x10", "\x18", "\x38", "\xDD\x26", "\xFD\x2E", "\xDD\x7E", "\xFD\x70", "\xDD\x34"} {
		for x := range 256 {
			m.check(t, append([]byte(c), byte(x)))
		}
	}
}

// P12.1 to P12.3: random bytes, mostly with prefixes, and each offset of them.
func TestRandom(t *testing.T) {
	t.Parallel()
	m := entries()
	r := rand.New(rand.NewSource(12))
	for range 3000 {
		b := make([]byte, 1+r.Intn(12))
		for k := range b {
			b[k] = byte(r.Intn(256))
			if r.Intn(3) == 0 {
				b[k] = "\xCB\xDD\xED\xFD"[r.Intn(4)]
			}
		}
		m.check(t, b)
		for at := range b {
			want, _ := m.first(b[at:])
			if item, n, ok := decode.At(b, at); !isSame(item, want) || n != at+len(want.Raw) || !ok {
				t.Fatalf("At(%s, %d) = %v, %d, %t, want %v", hex(b), at, item, n, ok, want)
			}
		}
	}
}

// samples returns numbers that the other operand of an entry can have.
func samples(e table.Entry) []int {
	switch {
	case strings.Contains(e.Extra, "e"):
		return []int{-128, -127, -1, 0, 1, 127}
	case strings.Contains(e.Extra, "n"):
		return []int{0, 1, 127, 128, 255}
	case strings.Contains(e.Extra, "w"):
		return []int{0, 1, 255, 256, 4660, 32767, 32768, 65535}
	}
	return []int{0}
}

// displacements returns displacements that an entry can have.
func displacements(e table.Entry) []int {
	if strings.Contains(e.Extra, "d") {
		return []int{-128, -1, 0, 5, 127}
	}
	return []int{0}
}

// P12.5: the encodings of the instructions of all entries, followed by any
// bytes, and their beginnings.
func TestEncodings(t *testing.T) {
	t.Parallel()
	for _, e := range table.Entries() {
		for _, d := range displacements(e) {
			for _, n := range samples(e) {
				b, ok := encode.Bytes(e, d, n)
				i, decoded := decode.Instr(b...)
				if !ok || !decoded {
					t.Fatalf("%v with %d and %d has no instruction", e, d, n)
				}
				checkEncoding(t, i)
				if item := decode.First(b); item.Alias != e.Alias || !instr.Same(item.Instr, i) || !slices.ContainsFunc(encode.Forms(i), func(form []byte) bool { return bytes.Equal(form, b) }) {
					t.Fatalf("First(%s) = %v, want an item of %v", hex(b), item, e)
				}
			}
		}
	}
}

// checkEncoding compares the first items of the encoding of an instruction
// with its canonical form.
func checkEncoding(t *testing.T, i api.Instr) {
	t.Helper()
	b, code := encode.Encode(i)
	want := api.Item{Kind: api.Code1, Raw: b, Instr: canon.Of(i)}
	if code != api.OK {
		t.Fatalf("%v has no encoding: %v", i, code)
	}
	for _, rest := range rests {
		if item := decode.First(append(slices.Clone(b), bytesOf(t, rest)...)); !isSame(item, want) {
			t.Errorf("First(%s) = %v, want %v", hex(b)+" and "+rest, item, want)
		}
	}
	for n := 1; n < len(b); n++ {
		if item := decode.First(b[:n]); !isSame(item, api.Item{Kind: api.Truncated, Raw: b[:n]}) {
			t.Errorf("First(%s) = %v, where %s is whole", hex(b[:n]), item, hex(b))
		}
		if need := decode.Need(b[:n]); need <= n || need > len(b) {
			t.Errorf("Need(%s) = %d, where %s is whole", hex(b[:n]), need, hex(b))
		}
	}
	stopIfFailed(t)
}

// P12.5: encodings with each byte behind them.
func TestEncodingsWithEachByte(t *testing.T) {
	for _, c := range whole {
		want := itemOf(t, c.raw, c.want)
		for x := range 256 {
			b := append(slices.Clone(want.Raw), byte(x))
			if item := decode.First(b); !isSame(item, want) {
				t.Errorf("First(%s) = %v, want %v", hex(b), item, want)
			}
		}
	}
}

// P12.5: instructions that are not written in their canonical forms.
func TestSynonyms(t *testing.T) {
	for _, text := range []string{
		"SUB A,B", "SUB A,-1", "SUB -1", "AND A,(IX+5)", "XOR A,IYL", "OR A,A", "CP A,(HL)", "ADD B", "ADC -128", "SBC (IY-7)", "EX HL,DE",
		"LD B,-1", "LD (HL),-128", "LD (IX-1),-2", "LD HL,-1", "LD IY,-32768", "JP -2", "CALL M,-32768",
	} {
		i := of(t, text)
		if canon.Is(i) {
			t.Errorf("%s is a canonical form", text)
		}
		checkEncoding(t, i)
	}
}

// P12.5: the items of all pairs of bytes that have an instruction. The Raw of
// one that is no alias is the encoding of the instruction, that of an alias is
// another one.
func TestItemsAreEncodings(t *testing.T) {
	t.Parallel()
	for x := range 256 {
		for y := range 256 {
			if y%16 != 0 && (x < 0xCB || x > 0xFD) && y < 0xF0 {
				continue // y is a number, of which some do
			}
			for _, rest := range [][]byte{{0x05, 0x46}, {0x80, 0xFF}, {0x7F, 0x81}} {
				b := append([]byte{byte(x), byte(y)}, rest...)
				item := decode.First(b)
				if item.Kind != api.Code1 {
					continue
				}
				want, code := encode.Encode(item.Instr)
				if code != api.OK || bytes.Equal(want, item.Raw) == item.Alias || !canon.Is(item.Instr) {
					t.Fatalf("First(%s) = %v, with the encoding %s, %v", hex(b), item, hex(want), code)
				}
			}
		}
	}
}
