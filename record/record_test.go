package record_test

import (
	"bytes"
	"fmt"
	"math"
	"math/rand"
	"slices"
	"strconv"
	"strings"
	"testing"

	"breadboard/api"
	"breadboard/record"
)

// strange has numbers that are neither types, addresses nor sizes, also some
// that would be after a wraparound.
var strange = []int{-1, -2, -255, -256, -65535, -65536, 65536, 65537, 131072, 1 << 32, 1<<32 + 1, math.MaxInt32, math.MinInt32, math.MaxInt, math.MinInt}

// bytesTo returns n bytes that count up from a first one.
func bytesTo(first, n int) []byte {
	b := make([]byte, n)
	for i := range b {
		b[i] = byte(first + i)
	}
	return b
}

func of(typ, addr int, data ...byte) record.Record {
	return record.Record{Type: typ, Addr: addr, Data: data}
}

// same compares records without the function Same.
func same(a, b record.Record) bool {
	return a.Type == b.Type && a.Addr == b.Addr && string(a.Data) == string(b.Data)
}

// lineOf returns the line of a right record, without the code of package record.
func lineOf(r record.Record) string {
	sum := len(r.Data) + r.Addr/256 + r.Addr%256 + r.Type
	for _, b := range r.Data {
		sum += int(b)
	}
	check := (256 - sum%256) % 256
	return fmt.Sprintf(":%02X%04X%02X%X%02X", len(r.Data), r.Addr, r.Type, r.Data, check)
}

// codeOf returns the code of a line, without the code of package record.
func codeOf(line string) api.Code {
	digits, ok := strings.CutPrefix(line, ":")
	if !ok || len(digits) < 10 || len(digits)%2 != 0 || strings.Trim(digits, "0123456789abcdefABCDEF") != "" {
		return api.ErrSyntax
	}
	first, sum := 0, 0
	for i := 0; i < len(digits); i += 2 {
		n, err := strconv.ParseUint(digits[i:i+2], 16, 8)
		if err != nil {
			panic(err)
		}
		if i == 0 {
			first = int(n)
		}
		sum += int(n)
	}
	switch {
	case first != len(digits)/2-5:
		return api.ErrLength
	case sum%256 != 0:
		return api.ErrSum
	}
	return api.OK
}

func wantLine(t *testing.T, r record.Record, want string) {
	t.Helper()
	if s, ok := record.Print(r); s != want || !ok {
		t.Fatalf("Print(%v) = %q, %v; want %q, true", r, s, ok, want)
	}
}

func wantNoLine(t *testing.T, r record.Record) {
	t.Helper()
	if s, ok := record.Print(r); s != "" || ok {
		t.Errorf("Print of the type %d, the address %d and %d bytes = %q, %v; want nothing and false", r.Type, r.Addr, len(r.Data), s, ok)
	}
}

func wantRecord(t *testing.T, line string, want record.Record) {
	t.Helper()
	if r, code := record.Parse(line); !same(r, want) || code != api.OK {
		t.Fatalf("Parse(%q) = %v, %v; want %v, %v", line, r, code, want, api.OK)
	}
}

func wantCode(t *testing.T, line string, want api.Code) {
	t.Helper()
	r, code := record.Parse(line)
	if code != want {
		t.Fatalf("Parse(%q) returns %v; want %v", line, code, want)
	}
	if code != api.OK && (r.Type != 0 || r.Addr != 0 || len(r.Data) != 0) {
		t.Fatalf("Parse(%q) = %v with %v", line, r, code)
	}
}

// P3.1
func TestSum(t *testing.T) {
	for _, c := range []struct {
		b    []byte
		want byte
	}{
		{nil, 0}, {[]byte{}, 0}, {[]byte{0}, 0}, {[]byte{0, 0, 0}, 0}, {[]byte{1}, 255}, {[]byte{255}, 1}, {[]byte{128}, 128},
		{[]byte{255, 1}, 0}, {[]byte{255, 255}, 2}, {[]byte{128, 128}, 0}, {[]byte{128, 128, 5}, 251}, {[]byte{1, 2, 3}, 250},
		{[]byte{0, 0, 0, 1}, 255}, {[]byte{3, 1, 0, 0, 0x21, 0x46, 1}, 0x94}, {bytes.Repeat([]byte{255}, 256), 0},
		{bytes.Repeat([]byte{1}, 1000000), 192},
	} {
		if got := record.Sum(c.b...); got != c.want {
			t.Errorf("Sum of %d bytes = %d; want %d", len(c.b), got, c.want)
		}
	}
}

// P3.1: bytes and their checksum have a sum that is a multiple of 256.
func TestSumCompletes(t *testing.T) {
	r := rand.New(rand.NewSource(1))
	for range 2000 {
		b := make([]byte, r.Intn(600))
		r.Read(b)
		before := slices.Clone(b)
		sum := int(record.Sum(b...))
		for _, x := range b {
			sum += int(x)
		}
		if sum%256 != 0 {
			t.Fatalf("the sum of %v and Sum is %d", b, sum)
		}
		if !bytes.Equal(b, before) {
			t.Fatalf("Sum changed %v to %v", before, b)
		}
	}
}

// P3.1
func TestPrintExamples(t *testing.T) {
	wantLine(t, of(record.End, 0), ":00000001FF")
	wantLine(t, record.Record{}, ":0000000000")
	wantLine(t, of(record.Data, 0x100, 0x21, 0x46, 0x01), ":0301000021460194")
	wantLine(t, of(record.Data, 16, 255), ":01001000FFF0")
	wantLine(t, of(record.Data, 0xabcd, 0xe, 0xf0), ":02ABCD000EF088")
	wantLine(t, of(255, 65535, 0), ":01FFFFFF0002")
	wantLine(t, of(record.End, 0x1234, 1), ":0112340101B7")
	wantLine(t, of(4, 0, 0x08, 0x00), ":020000040800F2")
	wantLine(t, record.Record{Type: record.End, Data: []byte{}}, ":00000001FF")
	wantLine(t, of(record.Data, 0, 0), ":0100000000FF")
}

// P3.1: all types, all addresses, all lengths and all bytes.
func TestPrintOfAllValues(t *testing.T) {
	for typ := range 256 {
		r := of(typ, typ*257, byte(typ), 7)
		wantLine(t, r, lineOf(r))
	}
	for addr := range 65536 {
		r := of(record.Data, addr, 9)
		wantLine(t, r, lineOf(r))
	}
	for n := range 256 {
		r := of(record.Data, 1000, bytesTo(n, n)...)
		wantLine(t, r, lineOf(r))
		r = of(record.Data, 1000, byte(n))
		wantLine(t, r, lineOf(r))
	}
}

// P3.1
func TestPrintRefusesRecordsThatAreNotRight(t *testing.T) {
	for _, n := range strange {
		wantNoLine(t, of(n, 0))
		wantNoLine(t, of(record.Data, n, 1))
		wantNoLine(t, of(n, n, bytesTo(0, 300)...))
	}
	wantNoLine(t, of(256, 0))
	wantNoLine(t, of(257, 0, 1))
	wantNoLine(t, of(-1, -1))
	for _, n := range []int{256, 257, 511, 512, 65536, 1000000} {
		wantNoLine(t, of(record.Data, 0, make([]byte, n)...))
		wantNoLine(t, of(record.End, 65535, make([]byte, n)...))
	}
}

// P3.1: Print neither changes the data nor writes behind it.
func TestPrintLeavesItsData(t *testing.T) {
	b := []byte{1, 2, 3, 4, 5, 6}
	wantLine(t, of(record.Data, 0, b[:2]...), ":020000000102FB")
	if !bytes.Equal(b, []byte{1, 2, 3, 4, 5, 6}) {
		t.Errorf("the bytes are %v", b)
	}
}

// P3.2
func TestParseExamples(t *testing.T) {
	wantRecord(t, ":00000001FF", of(record.End, 0))
	wantRecord(t, ":0000000000", record.Record{})
	wantRecord(t, ":0301000021460194", of(record.Data, 0x100, 0x21, 0x46, 0x01))
	wantRecord(t, ":020000040800F2", of(4, 0, 8, 0))
	wantRecord(t, ":01FFFFFF0002", of(255, 65535, 0))
	wantRecord(t, ":0112340101B7", of(record.End, 0x1234, 1))
	wantRecord(t, ":0100000000FF", of(record.Data, 0, 0))
}

// P3.2: letters may be small, also in some places only.
func TestParseSmallLetters(t *testing.T) {
	for line, want := range map[string]record.Record{
		":00000001ff":     of(record.End, 0),
		":00000001fF":     of(record.End, 0),
		":00000001Ff":     of(record.End, 0),
		":02abcd000ef088": of(record.Data, 0xabcd, 0x0e, 0xf0),
		":02aBcD000Ef088": of(record.Data, 0xabcd, 0x0e, 0xf0),
		":01001000fff0":   of(record.Data, 16, 255),
		":01fffffa0007":   of(250, 65535, 0),
	} {
		wantRecord(t, line, want)
	}
	r := of(0xde, 0xfedc, bytesTo(0x9a, 0x6a)...)
	wantRecord(t, strings.ToLower(lineOf(r)), r)
}

// P3.2
func TestParseRefusesWrongForms(t *testing.T) {
	for _, line := range []string{
		"", ":", "::", "0", "00000001FF", ";00000001FF", "::00000001FF", "0:00000001FF", " :00000001FF", "\ufeff:00000001FF", "\x00:00000001FF",
		":0", ":00", ":000000", ":00000001", ":00000001F", ":0000000F", ":000000000", ":010000001",
		":00000001FF0", ":00000001FF ", ":00000001FF\n", ":00000001FF\r", ":00000001FF\t ", ":00000001FF:", ":00000001FF\x00\x00", ":00000001FF;a",
		":00000001FG", ":0000000GFF", ":g0000001FF", ": 0000001FF", ": 00000001FF", ":00 00 00 01 FF", ":0x000001FF", ":00000001hF", ":0000-001FF", ":0000+001FF",
		":00000001F/", ":00000001F:", ":00000001F@", ":00000001F`", ":00000001\xff\xff", ":00000001é", ":00000001F\u0660", ":000000010FFH",
		":00_00_00_01FF", ":$0000001FF", "：00000001FF",
	} {
		wantCode(t, line, api.ErrSyntax)
	}
}

// P3.2
func TestParseRefusesWrongLengths(t *testing.T) {
	for _, line := range []string{
		":01000000FF", ":FF00000001", ":000000000000", ":00000001FF00", ":0000000001FF", ":0200000000FE", ":010000000000FF",
		":0500000000FB", ":0400000000FC", ":0600000001F9",
	} {
		wantCode(t, line, api.ErrLength)
	}
	for n := range 256 {
		right := lineOf(of(record.Data, 0, make([]byte, n)...))
		for _, k := range []int{0, 1, n - 1, n + 1, n + 4, n + 5, n + 128, 255} {
			if k != n && 0 <= k && k <= 255 {
				wantCode(t, fmt.Sprintf(":%02X%s", k, right[3:]), api.ErrLength)
			}
		}
	}
}

// P3.2: no line has more than 255 data bytes, whatever its first byte is.
func TestParseRefusesLongLines(t *testing.T) {
	for _, n := range []int{256, 257, 260, 511, 512, 768, 65536} {
		for _, first := range []int{0, 1, 5, 251, 255, n % 256} {
			b := append([]byte{byte(first), 0, 0, 0}, make([]byte, n)...)
			wantCode(t, fmt.Sprintf(":%X%02X", b, byte(-first)), api.ErrLength)
		}
	}
}

// P3.2
func TestParseRefusesWrongSums(t *testing.T) {
	for _, line := range []string{":00000001FE", ":0000000100", ":0000000001", ":00000001fe", ":0301000021460195", ":0301000021460193", ":0100000000FE", ":0000000101"} {
		wantCode(t, line, api.ErrSum)
	}
	for n := range 256 {
		want := api.ErrSum
		if n == 0xf0 {
			want = api.OK
		}
		wantCode(t, fmt.Sprintf(":01001000FF%02X", n), want)
	}
}

// P3.2: the codes in their order, where several apply.
func TestParseOrderOfCodes(t *testing.T) {
	for line, want := range map[string]api.Code{
		":05000000FG":       api.ErrSyntax, // also the length and the sum
		"05000000F0":        api.ErrSyntax,
		":05000000F":        api.ErrSyntax,
		":0500000":          api.ErrSyntax,
		":0100000001":       api.ErrLength, // also the sum
		":00000001FE00":     api.ErrLength,
		":00000001FF01":     api.ErrLength,
		":03010000214601":   api.ErrLength,
		":0301000021460100": api.ErrSum,
	} {
		wantCode(t, line, want)
	}
}

// P3.2: a type is no reason to refuse a line.
func TestParseAllTypes(t *testing.T) {
	for typ := range 256 {
		wantRecord(t, lineOf(of(typ, 0x102, 3)), of(typ, 0x102, 3))
		wantRecord(t, lineOf(of(typ, 0)), of(typ, 0))
	}
}

// P3.2, P3.5: each line that differs from a right one in a single place.
func TestParseChangedLines(t *testing.T) {
	for _, r := range []record.Record{of(record.End, 0), {}, of(record.Data, 0x100, 0x21, 0x46, 0x01), of(0xab, 0xfedc, 0xba, 0x98), of(255, 65535, bytesTo(0, 20)...)} {
		line := lineOf(r)
		for i := range len(line) + 1 {
			wantCode(t, line[:i], codeOf(line[:i]))
			wantCode(t, line[i:], codeOf(line[i:]))
			without := line[:i] + line[min(i+1, len(line)):]
			wantCode(t, without, codeOf(without))
			for c := range 256 {
				inserted := line[:i] + string([]byte{byte(c)}) + line[i:]
				wantCode(t, inserted, codeOf(inserted))
				if i < len(line) {
					replaced := line[:i] + string([]byte{byte(c)}) + line[i+1:]
					wantCode(t, replaced, codeOf(replaced))
				}
			}
		}
	}
}

// P3.2: random lines, most of which have something wrong.
func TestParseRandomLines(t *testing.T) {
	r := rand.New(rand.NewSource(2))
	seen := map[api.Code]int{}
	for range 20000 {
		data := make([]byte, r.Intn(4))
		r.Read(data)
		n := len(data) + r.Intn(10)/8
		b := append([]byte{byte(n), byte(r.Intn(256)), byte(r.Intn(256)), byte(r.Intn(3))}, data...)
		b = append(b, record.Sum(b...)+byte(r.Intn(10)/8))
		line := fmt.Sprintf(":%x", b)
		if r.Intn(10) == 0 {
			line = line[:r.Intn(len(line)+1)]
		}
		want := codeOf(line)
		wantCode(t, line, want)
		seen[want]++
	}
	for _, code := range []api.Code{api.OK, api.ErrSyntax, api.ErrLength, api.ErrSum} {
		if seen[code] < 50 {
			t.Errorf("only %d lines with %v", seen[code], code)
		}
	}
}

// P3.2: two results share no memory.
func TestParseResultsAreSeparate(t *testing.T) {
	const line = ":03010000010203F6"
	a, _ := record.Parse(line)
	b, _ := record.Parse(line)
	clear(a.Data)
	_ = append(a.Data, 99, 99)
	if !bytes.Equal(b.Data, []byte{1, 2, 3}) {
		t.Errorf("the data is %v", b.Data)
	}
	wantRecord(t, line, of(record.Data, 0x100, 1, 2, 3))
}

// wantSplit tests the result of Split for right arguments.
func wantSplit(t *testing.T, addr, size int, b []byte) {
	t.Helper()
	l := record.Split(addr, size, b...)
	var all []byte
	for i, r := range l {
		n := len(r.Data)
		if r.Type != record.Data || r.Addr != addr+i*size || n == 0 || n > size || n < size && i != len(l)-1 {
			t.Fatalf("Split of %d bytes at %d by %d: %d is %v", len(b), addr, size, i, r)
		}
		all = append(all, r.Data...)
	}
	if !bytes.Equal(all, b) {
		t.Fatalf("Split of %d bytes at %d by %d has the bytes %v", len(b), addr, size, all)
	}
}

func wantNoSplit(t *testing.T, addr, size int, b []byte) {
	t.Helper()
	if l := record.Split(addr, size, b...); len(l) != 0 {
		t.Errorf("Split of %d bytes at %d by %d has %d records", len(b), addr, size, len(l))
	}
}

// P3.3
func TestSplitExamples(t *testing.T) {
	for _, c := range []struct {
		addr, size int
		b          []byte
		want       []record.Record
	}{
		{65530, 4, []byte{1, 2, 3, 4, 5, 6}, []record.Record{of(0, 65530, 1, 2, 3, 4), of(0, 65534, 5, 6)}},
		{0, 1, []byte{7, 8}, []record.Record{of(0, 0, 7), of(0, 1, 8)}},
		{5, 2, []byte{7, 8}, []record.Record{of(0, 5, 7, 8)}},
		{5, 255, []byte{7, 8}, []record.Record{of(0, 5, 7, 8)}},
		{5, 3, []byte{0, 0, 0, 0}, []record.Record{of(0, 5, 0, 0, 0), of(0, 8, 0)}},
		{65535, 1, []byte{9}, []record.Record{of(0, 65535, 9)}},
		{3, 16, nil, nil},
		{65535, 16, []byte{}, nil},
	} {
		if l := record.Split(c.addr, c.size, c.b...); !slices.EqualFunc(l, c.want, same) {
			t.Errorf("Split(%d, %d, %v) = %v; want %v", c.addr, c.size, c.b, l, c.want)
		}
	}
}

// P3.3: all sizes, with lengths around their multiples.
func TestSplitAllSizes(t *testing.T) {
	for size := 1; size <= 255; size++ {
		for _, n := range []int{0, 1, size - 1, size, size + 1, 2*size - 1, 2 * size, 2*size + 1, 700} {
			wantSplit(t, 0, size, bytesTo(size, n))
			wantSplit(t, 65536-n-1, size, bytesTo(n, n))
			if n > 0 {
				wantSplit(t, 65536-n, size, bytesTo(n, n))
			}
			wantNoSplit(t, 65536-n+1, size, bytesTo(n, n))
		}
	}
}

// P3.3: the most bytes for which there is room, and one more.
func TestSplitAtTheBounds(t *testing.T) {
	for _, size := range []int{1, 2, 16, 254, 255} {
		wantSplit(t, 0, size, bytesTo(0, 65536))
		wantSplit(t, 1, size, bytesTo(0, 65535))
		wantSplit(t, 65534, size, []byte{1, 2})
		wantSplit(t, 65535, size, []byte{1})
		wantNoSplit(t, 0, size, bytesTo(0, 65537))
		wantNoSplit(t, 1, size, bytesTo(0, 65536))
		wantNoSplit(t, 65534, size, []byte{1, 2, 3})
		wantNoSplit(t, 65535, size, []byte{1, 2})
	}
}

// P3.3: wrong sizes and addresses.
func TestSplitOfNothing(t *testing.T) {
	for _, size := range slices.Concat(strange, []int{0, 256, 257, 512}) {
		for _, b := range [][]byte{nil, {1}, bytesTo(0, 300)} {
			wantNoSplit(t, 0, size, b)
			wantNoSplit(t, 65536, size, b)
		}
	}
	for _, addr := range strange {
		for _, b := range [][]byte{nil, {1}, bytesTo(0, 300)} {
			wantNoSplit(t, addr, 4, b)
			wantNoSplit(t, addr, 0, b)
		}
	}
}

// P3.3: the records share no memory with the bytes or each other.
func TestSplitCopies(t *testing.T) {
	b := []byte{1, 2, 3, 4, 5, 6}
	l := record.Split(0, 2, b[:5]...)
	clear(b)
	want := []record.Record{of(0, 0, 1, 2), of(0, 2, 3, 4), of(0, 4, 5)}
	if !slices.EqualFunc(l, want, same) {
		t.Fatalf("the records are %v", l)
	}
	for i := range l {
		_ = append(l[i].Data, 90, 91, 92)
	}
	if !slices.EqualFunc(l, want, same) {
		t.Errorf("the records are %v", l)
	}
	clear(l[0].Data)
	if !slices.EqualFunc(l[1:], want[1:], same) || !bytes.Equal(b, make([]byte, 6)) {
		t.Errorf("the records are %v, and the bytes %v", l, b)
	}
}

// P3.4
func TestSame(t *testing.T) {
	for _, c := range []struct {
		a, b record.Record
		want bool
	}{
		{record.Record{}, record.Record{}, true},
		{record.Record{Data: nil}, record.Record{Data: []byte{}}, true},
		{of(1, 2, 3), of(1, 2, 3), true},
		{of(1, 2, 3, 4), of(1, 2, 3, 4), true},
		{of(1, 2, 3), of(0, 2, 3), false},
		{of(1, 2, 3), of(1, 3, 3), false},
		{of(1, 2, 3), of(1, 2, 4), false},
		{of(1, 2), of(2, 1), false},
		{of(1, 2, 3), of(1, 2), false},
		{of(1, 2, 0), of(1, 2), false},
		{of(1, 2, 0), of(1, 2, 0, 0), false},
		{of(1, 2, 3, 4), of(1, 2, 4, 3), false},
		{of(1, 2, 3, 4, 5), of(1, 2, 3, 4, 6), false},
		{of(0, 0), of(256, 0), false},
		{of(0, 0), of(0, 65536), false},
		{of(0, 0), of(1<<32, 0), false},
		{of(0, 0), of(0, 1<<32), false},
		{of(-1, 0), of(255, 0), false},
		{of(0, -1), of(0, 65535), false},
		{of(256, -1, make([]byte, 300)...), of(256, -1, make([]byte, 300)...), true},
		{of(256, -1, make([]byte, 300)...), of(256, -1, make([]byte, 44)...), false},
		{of(math.MinInt, math.MaxInt), of(math.MinInt, math.MaxInt), true},
		{of(math.MinInt, math.MaxInt), of(math.MaxInt, math.MinInt), false},
	} {
		if got := record.Same(c.a, c.b); got != c.want {
			t.Errorf("Same(%v, %v) = %v", c.a, c.b, got)
		}
		if got := record.Same(c.b, c.a); got != c.want {
			t.Errorf("Same(%v, %v) = %v", c.b, c.a, got)
		}
		if !record.Same(c.a, c.a) || !record.Same(c.b, c.b) {
			t.Errorf("%v or %v is not the same as itself", c.a, c.b)
		}
	}
}

// P3.5
func TestParseInvertsPrint(t *testing.T) {
	r := rand.New(rand.NewSource(3))
	for n := range 256 {
		for range 10 {
			data := make([]byte, n)
			r.Read(data)
			want := of(r.Intn(256), r.Intn(65536), data...)
			line, ok := record.Print(want)
			if !ok {
				t.Fatalf("Print(%v) returns false", want)
			}
			got, code := record.Parse(line)
			if code != api.OK || !record.Same(got, want) {
				t.Fatalf("Parse(%q) = %v, %v; want %v", line, got, code, want)
			}
			if again, _ := record.Print(got); again != line {
				t.Fatalf("Print(%v) = %q; want %q", got, again, line)
			}
		}
	}
}

// P3.5: a digit with another value is noticed, wherever it is.
func TestParseNoticesEachDigit(t *testing.T) {
	const digits = "0123456789ABCDEFabcdef"
	for _, r := range []record.Record{of(record.End, 0), of(record.Data, 65535, 0), of(254, 0x8000, bytesTo(100, 255)...), of(record.Data, 0x100, bytesTo(0xf8, 16)...)} {
		line, _ := record.Print(r)
		for i := 1; i < len(line); i++ {
			for _, c := range digits {
				changed := line[:i] + string(c) + line[i+1:]
				_, code := record.Parse(changed)
				if equal := strings.EqualFold(changed, line); (code == api.OK) != equal {
					t.Fatalf("Parse(%q) returns %v", changed, code)
				}
			}
		}
	}
}
