package encode_test

import (
	"fmt"
	"math"
	"slices"
	"strings"
	"testing"

	"breadboard/api"
	"breadboard/canon"
	"breadboard/encode"
	"breadboard/instr"
	"breadboard/search"
	"breadboard/table"
)

// model returns the bytes of an entry with a displacement and a number, and
// whether it can have these. It goes by the texts of the chapters alone.
func model(e table.Entry, d, n int) ([]byte, bool) {
	var numbers []int
	switch e.Page {
	case table.CB:
		numbers = []int{0xCB}
	case table.ED:
		numbers = []int{0xED}
	case table.DD:
		numbers = []int{0xDD}
	case table.FD:
		numbers = []int{0xFD}
	case table.DDCB:
		numbers = []int{0xDD, 0xCB, d}
	case table.FDCB:
		numbers = []int{0xFD, 0xCB, d}
	}
	numbers = append(numbers, int(e.Op))
	leastD, mostD, leastN, mostN := spans(e)
	if e.Page < table.DDCB && leastD < mostD {
		numbers = append(numbers, d)
	}
	switch mostN {
	case 127, 255:
		numbers = append(numbers, n)
	case 65535:
		numbers = append(numbers, n%256, n/256)
	}
	if d < leastD || d > mostD || n < leastN || n > mostN {
		return nil, false
	}
	b := make([]byte, len(numbers))
	for k, number := range numbers {
		b[k] = byte((number + 256) % 256)
	}
	return b, true
}

// spans returns the bounds of the displacement and of the number of an entry.
func spans(e table.Entry) (leastD, mostD, leastN, mostN int) {
	if strings.Contains(e.Extra, "d") {
		leastD, mostD = -128, 127
	}
	switch {
	case strings.Contains(e.Extra, "e"):
		leastN, mostN = -128, 127
	case strings.Contains(e.Extra, "n"):
		mostN = 255
	case strings.Contains(e.Extra, "w"):
		mostN = 65535
	}
	return leastD, mostD, leastN, mostN
}

// samples returns numbers from least to most: both ends, the numbers beside
// them, and some between them whose bytes are different.
func samples(least, most int) []int {
	l := []int{least, least + 1, most - 1, most}
	for _, n := range []int{-1, 0, 1, 127, 128, 255, 256, 4660, 32767, 32768, 65280} {
		if least < n && n < most {
			l = append(l, n)
		}
	}
	slices.Sort(l)
	return slices.DeleteFunc(slices.Compact(l), func(n int) bool { return n < least || n > most })
}

// P11.3: all entries with numbers in their ranges, and beside and far beyond
// them, and with numbers that no operand has.
func TestBytesOfAllEntries(t *testing.T) {
	t.Parallel()
	numbers := []int{
		math.MinInt, -65537, -65536, -65535, -32769, -32768, -257, -256, -255, -129, -128, -127, -1, 0, 1, 7, 8,
		126, 127, 128, 129, 254, 255, 256, 257, 511, 4660, 32767, 32768, 65534, 65535, 65536, 65537, 1 << 32, math.MaxInt,
	}
	for _, e := range table.Entries() {
		for _, d := range numbers {
			for _, n := range []int{0, 1, -1, d, -d} {
				checkBytes(t, e, d, n)
				checkBytes(t, e, n, d)
			}
		}
		stopIfFailed(t)
	}
}

// checkBytes compares the bytes of an entry with those of the model, and with
// what lower layers say of it.
func checkBytes(t *testing.T, e table.Entry, d, n int) {
	t.Helper()
	want, wantOK := model(e, d, n)
	b, ok := encode.Bytes(e, d, n)
	if ok != wantOK || !slices.Equal(b, want) {
		t.Errorf("Bytes(%v, %d, %d) = %s, %t, want %s, %t", e, d, n, hex(b), ok, hex(want), wantOK)
	}
	if _, fills := search.Fill(e, d, n); fills != ok || ok && len(b) != table.Size(e) {
		t.Errorf("Bytes(%v, %d, %d) = %s, %t, where Fill says %t, and Size is %d", e, d, n, hex(b), ok, fills, table.Size(e))
	}
}

// P11.3: entries of every page and each letter with all numbers that they can
// have.
func TestBytesOfAllNumbers(t *testing.T) {
	t.Parallel()
	for _, e := range []table.Entry{
		at(t, table.Main, 0x21), at(t, table.ED, 0x6B), at(t, table.FD, 0x22), at(t, table.DD, 0x36), at(t, table.Main, 0x38),
		at(t, table.FD, 0x2E), at(t, table.DD, 0x7E), at(t, table.DDCB, 0x69), at(t, table.FDCB, 0xFE), at(t, table.CB, 0x46),
	} {
		leastD, mostD, leastN, mostN := spans(e)
		for d := leastD; d <= mostD; d++ {
			for n := leastN; n <= mostN; n++ {
				want, _ := model(e, d, n)
				if b, ok := encode.Bytes(e, d, n); !ok || !slices.Equal(b, want) {
					t.Fatalf("Bytes(%v, %d, %d) = %s, %t, want %s", e, d, n, hex(b), ok, hex(want))
				}
			}
		}
	}
}

// byForm has the bytes of all entries that an instruction has, by a text of its
// canonical form, in the order of the table.
type byForm map[string]*meaning

// meaning is an instruction with the bytes that mean it.
type meaning struct {
	form  api.Instr
	want  []byte   // the bytes of the entry that is no alias
	forms [][]byte // the bytes of all entries
}

// text returns what tells instructions apart, also those with the two operands
// that are named C.
func text(i api.Instr) string { return fmt.Sprint(i.Op, i.Args) }

// meanings returns the instructions of all entries with sample numbers.
func meanings(t *testing.T) byForm {
	t.Helper()
	m := byForm{}
	for _, e := range table.Entries() {
		leastD, mostD, leastN, mostN := spans(e)
		for _, d := range samples(leastD, mostD) {
			for _, n := range samples(leastN, mostN) {
				i, ok := search.Fill(e, d, n)
				if !ok {
					t.Fatalf("%v has not the numbers %d and %d", e, d, n)
				}
				b, _ := model(e, d, n)
				key := text(i)
				if m[key] == nil {
					m[key] = &meaning{form: i}
				}
				m[key].forms = append(m[key].forms, b)
				if !e.Alias {
					m[key].want = b
				}
			}
		}
	}
	return m
}

// P11.1, P11.4 and P11.6: the instructions of all entries with sample numbers.
func TestInstructionsOfAllEntries(t *testing.T) {
	t.Parallel()
	m := meanings(t)
	if len(m) < 3000 {
		t.Error("only", len(m), "instructions")
	}
	for _, c := range m {
		b, code := encode.Encode(c.form)
		if !slices.Equal(b, c.want) || code != api.OK || len(b) < 1 || len(b) > 4 {
			t.Errorf("Encode(%v) = %s, %v, want %s", c.form, hex(b), code, hex(c.want))
		}
		if n, code := encode.Size(c.form); n != len(c.want) || code != api.OK {
			t.Errorf("Size(%v) = %d, %v, want %d", c.form, n, code, len(c.want))
		}
		if l := encode.Forms(c.form); !slices.EqualFunc(l, c.forms, slices.Equal) {
			t.Errorf("Forms(%v) = %s, want %s", c.form, hexes(l), hexes(c.forms))
		}
		stopIfFailed(t)
	}
}

// P11.6: canonical forms that are different have encodings none of which
// begins with another one. In ascending order of bytes, an encoding with which
// others begin is directly in front of one of them.
func TestEncodingsBeginDifferently(t *testing.T) {
	t.Parallel()
	forms := map[string]api.Instr{}
	var l []string
	for _, c := range meanings(t) {
		b, _ := encode.Encode(c.form)
		if other, ok := forms[string(b)]; ok && !canon.Equal(other, c.form) {
			t.Fatalf("%v and %v have the encoding %s", other, c.form, hex(b))
		}
		forms[string(b)] = c.form
		l = append(l, string(b))
	}
	slices.Sort(l)
	for k := range len(l) - 1 {
		if strings.HasPrefix(l[k+1], l[k]) {
			t.Errorf("the encoding of %v begins with that of %v: %s", forms[l[k+1]], forms[l[k]], hex([]byte(l[k+1])))
		}
	}
}

// P11.6: all encodings with all displacements and all numbers of one byte.
func TestAllBytesBeginDifferently(t *testing.T) {
	t.Parallel()
	var l []string
	for _, e := range table.Entries() {
		if e.Alias {
			continue
		}
		leastD, mostD, leastN, mostN := spans(e)
		for d := leastD; d <= mostD; d++ {
			for n := leastN; n <= mostN; n++ {
				b, ok := encode.Bytes(e, d, n)
				if !ok || len(b) < 1 || len(b) > 4 {
					t.Fatalf("Bytes(%v, %d, %d) = %s, %t", e, d, n, hex(b), ok)
				}
				l = append(l, string(b))
				if mostN == 65535 {
					n += 250 // so that both bytes change
				}
			}
		}
	}
	slices.Sort(l)
	for k := range len(l) - 1 {
		if strings.HasPrefix(l[k+1], l[k]) {
			t.Fatalf("bytes begin with others: %s and %s", hex([]byte(l[k])), hex([]byte(l[k+1])))
		}
	}
}

// P11.5: all addresses with targets at both ends of the distance and beside
// them, and addresses near the ends with all targets around them.
func TestJumpModel(t *testing.T) {
	t.Parallel()
	check := func(from, distance int) {
		want, wantOK := distance, 0 <= from && from <= 65535 && -128 <= distance && distance <= 127
		if !wantOK {
			want = 0
		}
		if n, ok := encode.Jump(from, from+2+distance); n != want || ok != wantOK {
			t.Fatalf("Jump(%d, %d) = %d, %t, want %d, %t", from, from+2+distance, n, ok, want, wantOK)
		}
	}
	for from := -300; from < 65536+300; from++ {
		for _, distance := range []int{-129, -128, -2, 0, 127, 128} {
			check(from, distance)
		}
	}
	for _, from := range []int{-65536, -256, -3, -2, -1, 0, 1, 2, 3, 125, 126, 127, 128, 254, 255, 256, 32766, 32767, 32768, 65406, 65407, 65408, 65533, 65534, 65535, 65536, 65537, 65538, 1 << 20} {
		for distance := -70000; distance <= 70000; distance++ {
			check(from, distance)
		}
	}
}

// P11.1 and P11.5: the distances of Jump are those of jumps of two bytes.
func TestJumpDistances(t *testing.T) {
	for to := 1000 - 126; to <= 1000+129; to++ {
		n, ok := encode.Jump(1000, to)
		b, code := encode.Encode(instr.Make("DJNZ", api.Operand{Kind: api.Rel, N: n}))
		if !ok || code != api.OK || len(b) != 2 || 1000+len(b)+int(int8(b[1])) != to {
			t.Errorf("Jump(1000, %d) = %d, %t, with the encoding %s", to, n, ok, hex(b))
		}
	}
}
