package items_test

import (
	"bytes"
	"math/rand"
	"slices"
	"strings"
	"testing"

	"breadboard/api"
	"breadboard/canon"
	"breadboard/decode"
	"breadboard/encode"
	"breadboard/items"
	"breadboard/table"
)

// modelItems returns the items of some bytes as the chapter says it: the first
// item, and the items of the bytes after it.
func modelItems(b []byte) []api.Item {
	if len(b) == 0 {
		return nil
	}
	first := decode.First(b)
	return append([]api.Item{first}, modelItems(b[len(first.Raw):])...)
}

// encodings knows the pages' prefixes followed by the opcode of all entries
// that are no alias, and how many bytes follow it.
type encodings map[string]int

func newEncodings() encodings {
	m := encodings{}
	for _, e := range table.Entries() {
		if e.Alias {
			continue
		}
		more := 0
		switch {
		case e.Page >= table.DDCB:
		case e.Extra == "w" || e.Extra == "dn":
			more = 2
		case e.Extra != "":
			more = 1
		}
		m[string(append(table.Prefixes(e.Page), e.Op))] = more
	}
	return m
}

// is reports whether some bytes are the encoding of an instruction, without
// the items of them.
func (m encodings) is(b []byte) bool {
	if len(b) == 4 && (strings.HasPrefix(string(b), "\xDD\xCB") || strings.HasPrefix(string(b), "\xFD\xCB")) {
		_, ok := m[string(b[:2])+string(b[3:])]
		return ok
	}
	for size := 1; size <= min(len(b), 2); size++ {
		if more, ok := m[string(b[:size])]; ok && size+more == len(b) {
			return true
		}
	}
	return false
}

// ways returns the number of ways to divide some bytes into encodings: those
// that end with an encoding of each size.
func (m encodings) ways(b []byte) int {
	ways := []int{1}
	for end := 1; end <= len(b); end++ {
		n := 0
		for size := 1; size <= min(end, 4); size++ {
			if m.is(b[end-size : end]) {
				n += ways[end-size]
			}
		}
		ways = append(ways, n)
	}
	return ways[len(b)]
}

// check compares what the package says of some bytes, and of their items, with
// the model.
func (m encodings) check(t *testing.T, b []byte) {
	t.Helper()
	want := modelItems(b)
	l := items.Decode(b)
	if !areSame(l, want) {
		t.Errorf("Decode(%s) = %v, want %v", hex(b), l, want)
	}
	if raw := items.Raw(l...); !bytes.Equal(raw, b) {
		t.Errorf("Raw of the items of %s is %s", hex(b), hex(raw))
	}
	if !items.Check(l...) {
		t.Errorf("Check of the items of %s is false", hex(b))
	}
	for k, item := range l {
		if item.Kind == api.Truncated && k != len(l)-1 {
			t.Errorf("item %d of %s is Truncated", k, hex(b))
		}
	}
	if n, want := items.Split(b), m.ways(b); n != want {
		t.Errorf("Split(%s) = %d, want %d", hex(b), n, want)
	}
	stopIfFailed(t)
}

// P13.1 to P13.3, P13.5 and P13.6: one byte with each value, and all pairs.
func TestFewBytes(t *testing.T) {
	t.Parallel()
	m := newEncodings()
	for x := range 256 {
		m.check(t, []byte{byte(x)})
		checkList(t, items.Decode([]byte{byte(x)}))
		for y := range 256 {
			m.check(t, []byte{byte(x), byte(y)})
		}
	}
}

// P13.1 to P13.3, P13.5 and P13.6: prefixes with each byte behind them, and
// some behind this one.
func TestPrefixes(t *testing.T) {
	t.Parallel()
	m := newEncodings()
	for _, prefix := range []string{"\xCB", "\xED", "\xDD", "\xFD", "\xDD\xCB", "\xFD\xCB", "\xDD\xDD", "\xFD\xED", "\x00\xDD", "\xED\x4C", "\xED\x44"} {
		for x := range 256 {
			m.check(t, append([]byte(prefix), byte(x)))
			for _, y := range []byte{0x00, 0x36, 0x46, 0x40, 0x7E, 0xCB, 0xDD, 0xED, 0xFD, 0x21, 0xFF} {
				for _, rest := range []string{"", "\x01", "\x01\x02", "\xED", "\x4C\xDD"} {
					m.check(t, append([]byte(prefix), append([]byte{byte(x), y}, rest...)...))
				}
			}
		}
	}
}

// randomBytes returns bytes, of which some are prefixes.
func randomBytes(r *rand.Rand, n int) []byte {
	b := make([]byte, n)
	for k := range b {
		b[k] = byte(r.Intn(256))
		if r.Intn(5) == 0 {
			b[k] = "\xCB\xDD\xED\xFD"[r.Intn(4)]
		}
	}
	return b
}

// P13.1 to P13.6: random bytes, and their items with changes.
func TestRandom(t *testing.T) {
	t.Parallel()
	m := newEncodings()
	r := rand.New(rand.NewSource(13))
	for range 3000 {
		b := randomBytes(r, r.Intn(40))
		m.check(t, b)
		l := items.Decode(b)
		checkList(t, l)
		if len(l) == 0 {
			continue
		}
		other := items.Decode(randomBytes(r, r.Intn(6)))
		k, j := r.Intn(len(l)), r.Intn(len(l))
		checkAsDecoded(t, slices.Insert(slices.Clone(l), k, other...))
		checkAsDecoded(t, slices.Delete(slices.Clone(l), min(k, j), max(k, j)))
		checkAsDecoded(t, append(slices.Clone(l[k:]), l[:k]...))
		l[k], l[j] = l[j], l[k]
		checkAsDecoded(t, l)
		checkList(t, l)
		stopIfFailed(t)
	}
}

// P13.1 and P13.3: many random bytes.
func TestManyRandomBytes(t *testing.T) {
	t.Parallel()
	m := newEncodings()
	r := rand.New(rand.NewSource(1313))
	for range 20 {
		m.check(t, randomBytes(r, 2000+r.Intn(3)))
	}
}

// instructions returns the instructions of all entries with some numbers, in
// their canonical forms.
func instructions(t *testing.T) []api.Instr {
	t.Helper()
	var l []api.Instr
	for _, e := range table.Entries() {
		numbers := []int{0}
		switch {
		case strings.Contains(e.Extra, "w"):
			numbers = []int{0, 255, 4660, 56779, 65535}
		case strings.Contains(e.Extra, "n"):
			numbers = []int{0, 127, 203, 237, 255}
		case strings.Contains(e.Extra, "e"):
			numbers = []int{-128, -35, 0, 127}
		}
		displacements := []int{0}
		if strings.Contains(e.Extra, "d") {
			displacements = []int{-128, -35, 5, 127}
		}
		for _, d := range displacements {
			for _, n := range numbers {
				b, ok := encode.Bytes(e, d, n)
				i, decoded := decode.Instr(b...)
				if !ok || !decoded {
					t.Fatalf("%v with %d and %d is no instruction", e, d, n)
				}
				l = append(l, i)
			}
		}
	}
	return l
}

// checkEncoded compares the items of the encodings of instructions with their
// canonical forms.
func checkEncoded(t *testing.T, l []api.Instr) {
	t.Helper()
	b, _, code := encode.All(l...)
	if code != api.OK {
		t.Fatalf("%v have no encoding: %v", l, code)
	}
	got := items.Decode(b)
	want := canon.All(l...)
	if !sameCode(items.Code(got...), want) || len(got) != len(want) || items.Count(api.Code1, got...) != len(want) {
		t.Errorf("items of %s are %v, want %v", hex(b), got, want)
	}
	for k, item := range got {
		if one, _ := encode.Encode(want[k]); item.Alias || !bytes.Equal(item.Raw, one) {
			t.Errorf("item %d of %s is %v, want that of %s", k, hex(b), item, hex(one))
		}
	}
	if n := items.Split(b); n != 1 {
		t.Errorf("Split(%s) = %d", hex(b), n)
	}
	stopIfFailed(t)
}

// P13.5 and P13.6: encodings one after the other: of all instructions in turn,
// in another order, and of pairs.
func TestEncodings(t *testing.T) {
	t.Parallel()
	l := instructions(t)
	checkEncoded(t, l)
	slices.Reverse(l)
	checkEncoded(t, l)
	r := rand.New(rand.NewSource(131))
	for range 2000 {
		var some []api.Instr
		for range 1 + r.Intn(8) {
			some = append(some, l[r.Intn(len(l))])
		}
		checkEncoded(t, some)
	}
	checkEncoded(t, nil)
}

// P13.5: encodings with a byte too few, and with a byte too many.
func TestSplitOfEncodings(t *testing.T) {
	t.Parallel()
	m := newEncodings()
	r := rand.New(rand.NewSource(135))
	l := instructions(t)
	for range 2000 {
		b, _, _ := encode.All(l[r.Intn(len(l))], l[r.Intn(len(l))], l[r.Intn(len(l))])
		m.check(t, b)
		m.check(t, b[:len(b)-1])
		m.check(t, b[1:])
		m.check(t, append(slices.Clone(b), randomBytes(r, 1)...))
		m.check(t, append(randomBytes(r, 1), b...))
		m.check(t, slices.Insert(slices.Clone(b), r.Intn(len(b)), randomBytes(r, 1)...))
	}
}

// P13.6: instructions that are not written in their canonical forms.
func TestSynonyms(t *testing.T) {
	var l []api.Instr
	for _, text := range []string{"SUB A,B", "SUB A,-1", "SUB -1", "AND A,(IX+5)", "XOR A,IYL", "OR A,A", "CP A,(HL)", "ADD B", "ADC -128", "SBC (IY-7)", "EX HL,DE", "LD B,-1", "LD (HL),-128", "LD (IX-1),-2", "LD HL,-1", "LD IY,-32768", "JP -2", "CALL M,-32768"} {
		i := of(t, text)
		if canon.Is(i) {
			t.Errorf("%s is a canonical form", text)
		}
		l = append(l, i)
		checkEncoded(t, []api.Instr{i})
		checkEncoded(t, l)
	}
}
