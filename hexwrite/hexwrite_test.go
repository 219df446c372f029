package hexwrite_test

import (
	"fmt"
	"math"
	"math/rand"
	"slices"
	"strconv"
	"strings"
	"sync"
	"testing"

	"breadboard/api"
	"breadboard/hexwrite"
	"breadboard/image"
)

const endLine = ":00000001FF\n"

// strange has numbers that are no sizes, also some that would be after a
// wraparound.
var strange = []int{0, -1, -2, -16, -255, -256, 256, 257, 272, 511, 512, 65536, 65552, 1 << 32, 1<<32 + 16, math.MaxInt32, math.MinInt32, math.MaxInt, math.MinInt}

func run(addr int, b ...byte) image.Run { return image.Run{Addr: addr, Data: b} }

// bytesTo returns n bytes that count up from a first one.
func bytesTo(first, n int) []byte {
	b := make([]byte, n)
	for i := range b {
		b[i] = byte(first + i)
	}
	return b
}

// of returns an image with the given runs.
func of(t *testing.T, l ...image.Run) *image.Image {
	t.Helper()
	m := image.New()
	for _, r := range l {
		if code := m.Put(r.Addr, r.Data...); code != api.OK {
			t.Fatalf("Put of %d bytes at %d returns %v", len(r.Data), r.Addr, code)
		}
	}
	return m
}

// random returns an image with up to n ranges of up to size bytes, some of
// which follow each other without a gap.
func random(r *rand.Rand, n, size int) *image.Image {
	m := image.New()
	for range r.Intn(n + 1) {
		b := make([]byte, 1+r.Intn(size))
		r.Read(b)
		m.Put(r.Intn(65537-len(b)), b...)
	}
	return m
}

// images returns images of all sorts, with names.
func images(t *testing.T) map[string]*image.Image {
	every := make([]image.Run, 0, 32768)
	for addr := 1; addr < 65536; addr += 2 {
		every = append(every, run(addr, byte(addr)))
	}
	return map[string]*image.Image{
		"nil":              nil,
		"empty":            image.New(),
		"first":            of(t, run(0, 0)),
		"last":             of(t, run(65535, 255)),
		"both ends":        of(t, run(0, 1), run(65535, 2)),
		"full":             of(t, run(0, bytesTo(3, 65536)...)),
		"all but first":    of(t, run(1, bytesTo(3, 65535)...)),
		"all but last":     of(t, run(0, bytesTo(3, 65535)...)),
		"a gap":            of(t, run(0, bytesTo(3, 40000)...), run(40001, bytesTo(3, 25535)...)),
		"every second":     of(t, every...),
		"two puts":         of(t, run(20, bytesTo(0, 10)...), run(30, bytesTo(10, 10)...)),
		"puts in disorder": of(t, run(300, 1, 2), run(4, 3), run(100, bytesTo(9, 20)...), run(2, 5, 6)),
		"to the end":       of(t, run(65500, bytesTo(0, 36)...)),
		"one more":         of(t, run(7, bytesTo(0, 17)...)),
		"exactly one":      of(t, run(7, bytesTo(0, 16)...)),
		"zeros":            of(t, run(0x1000, make([]byte, 50)...)),
		"across a page":    of(t, run(0xff, 1, 2), run(0xfffe, 3)),
	}
}

// hexLine returns the line of a data record, without the packages of the program.
func hexLine(addr int, b []byte) string {
	sum := len(b) + addr/256 + addr%256
	for _, c := range b {
		sum += int(c)
	}
	return fmt.Sprintf(":%02X%04X00%X%02X\n", len(b), addr, b, (256-sum%256)%256)
}

// hexText returns a HEX text, made of an image one address after the other.
func hexText(size int, m *image.Image) string {
	var text strings.Builder
	var b []byte
	for addr := range 65537 {
		c, ok := m.Get(addr)
		if len(b) > 0 && (!ok || len(b) == size) {
			text.WriteString(hexLine(addr-len(b), b))
			b = nil
		}
		if ok {
			b = append(b, c)
		}
	}
	return text.String() + endLine
}

// dumpText returns a dump, made of an image one address after the other.
func dumpText(m *image.Image) string {
	var text strings.Builder
	inLine := false
	for addr := range 65537 {
		c, ok := m.Get(addr)
		if inLine && (!ok || addr%16 == 0) {
			text.WriteString("\n")
			inLine = false
		}
		if !ok {
			continue
		}
		if !inLine {
			fmt.Fprintf(&text, "%04X:", addr)
			inLine = true
		}
		fmt.Fprintf(&text, " %02X", c)
	}
	return text.String()
}

// wantText compares long texts, and shows where they differ only.
func wantText(t *testing.T, what, got, want string) {
	t.Helper()
	if got == want {
		return
	}
	g, w := strings.SplitAfter(got, "\n"), strings.SplitAfter(want, "\n")
	for i := range min(len(g), len(w)) {
		if g[i] != w[i] {
			t.Fatalf("%s: line %d is %q; want %q", what, i+1, g[i], w[i])
		}
	}
	t.Fatalf("%s: has %d lines; want %d", what, len(g)-1, len(w)-1)
}

// wantAll tests all functions of one image.
func wantAll(t *testing.T, name string, m *image.Image) {
	t.Helper()
	want := hexText(16, m)
	wantText(t, name+": Write", hexwrite.Write(m), want)
	if got, n := hexwrite.Lines(m), strings.Count(want, "\n"); got != n {
		t.Fatalf("%s: Lines = %d; want %d", name, got, n)
	}
	wantText(t, name+": Dump", hexwrite.Dump(m), dumpText(m))
}

func wantSized(t *testing.T, name string, size int, m *image.Image) {
	t.Helper()
	got, ok := hexwrite.Sized(size, m)
	if !ok {
		t.Fatalf("%s: Sized(%d) returns false", name, size)
	}
	wantText(t, fmt.Sprintf("%s: Sized(%d)", name, size), got, hexText(size, m))
}

// P4.1
func TestWriteExamples(t *testing.T) {
	for _, c := range []struct {
		m    *image.Image
		want string
	}{
		{nil, endLine},
		{image.New(), endLine},
		{of(t, run(5, 0xc3)), ":01000500C337\n" + endLine},
		{of(t, run(0, 0x3e, 5)), ":020000003E05BB\n" + endLine},
		{of(t, run(65535, 0)), ":01FFFF000001\n" + endLine},
		{of(t, run(0xabcd, 0x0e, 0xf0)), ":02ABCD000EF088\n" + endLine},
		{of(t, run(0x200, 1), run(0x100, 2)), ":0101000002FC\n:0102000001FC\n" + endLine},
		{of(t, run(0x1ff, 1), run(0x200, 2)), ":0201FF000102FB\n" + endLine},
		{
			of(t, run(0x100, bytesTo(0, 18)...), run(5, 0xc3)),
			":01000500C337\n:10010000000102030405060708090A0B0C0D0E0F77\n:020110001011CC\n" + endLine,
		},
		{
			of(t, run(0xffef, bytesTo(0, 17)...)),
			":10FFEF00000102030405060708090A0B0C0D0E0F8A\n:01FFFF0010F1\n" + endLine,
		},
	} {
		wantText(t, "Write", hexwrite.Write(c.m), c.want)
	}
}

// P4.1: a record begins where a run does, and not at a multiple of 16.
func TestWriteDoesNotAlign(t *testing.T) {
	text := hexwrite.Write(of(t, run(7, bytesTo(0, 40)...)))
	var starts []string
	for line := range strings.Lines(text) {
		starts = append(starts, line[:9])
	}
	if want := []string{":10000700", ":10001700", ":08002700", ":00000001"}; !slices.Equal(starts, want) {
		t.Errorf("the lines begin with %v; want %v", starts, want)
	}
}

// P4.1, P4.2, P4.3
func TestAllSortsOfImages(t *testing.T) {
	for name, m := range images(t) {
		wantAll(t, name, m)
		for _, size := range []int{1, 2, 15, 16, 17, 128, 254, 255} {
			wantSized(t, name, size, m)
		}
	}
}

// P4.1, P4.2, P4.3
func TestRandomImages(t *testing.T) {
	r := rand.New(rand.NewSource(4))
	for i := range 60 {
		m := random(r, 60, 1+i*i)
		name := "random " + strconv.Itoa(i)
		wantAll(t, name, m)
		wantSized(t, name, 1+r.Intn(255), m)
	}
}

// P4.1: all sizes, with runs whose lengths are around their multiples.
func TestSizedAllSizes(t *testing.T) {
	for size := 1; size <= 255; size++ {
		m := of(t,
			run(3, bytesTo(size, size)...), run(1000, bytesTo(size, size+1)...), run(2000, bytesTo(size, 2*size)...),
			run(3000, bytesTo(size, 2*size+1)...), run(4000, bytesTo(size, max(1, size-1))...), run(65536-3*size, bytesTo(0, 3*size)...))
		wantSized(t, "multiples", size, m)
		for _, empty := range []*image.Image{nil, image.New()} {
			if got, ok := hexwrite.Sized(size, empty); got != endLine || !ok {
				t.Fatalf("Sized(%d) of no bytes = %q, %v", size, got, ok)
			}
		}
	}
}

// P4.1
func TestSizedExamples(t *testing.T) {
	m := of(t, run(0x100, bytesTo(0, 18)...), run(5, 0xc3))
	for size, want := range map[int]string{
		255: ":01000500C337\n:12010000000102030405060708090A0B0C0D0E0F101154\n" + endLine,
		18:  ":01000500C337\n:12010000000102030405060708090A0B0C0D0E0F101154\n" + endLine,
		17:  ":01000500C337\n:11010000000102030405060708090A0B0C0D0E0F1066\n:0101110011DC\n" + endLine,
		9:   ":01000500C337\n:09010000000102030405060708D2\n:09010900090A0B0C0D0E0F101178\n" + endLine,
	} {
		got, ok := hexwrite.Sized(size, m)
		if !ok {
			t.Errorf("Sized(%d) returns false", size)
		}
		wantText(t, fmt.Sprintf("Sized(%d)", size), got, want)
	}
	for _, one := range []*image.Image{m, nil} {
		if got, ok := hexwrite.Sized(16, one); got != hexwrite.Write(one) || !ok {
			t.Errorf("Sized(16) = %q, %v", got, ok)
		}
	}
}

// P4.1
func TestSizedRefusesWrongSizes(t *testing.T) {
	for _, size := range strange {
		for _, m := range []*image.Image{nil, image.New(), of(t, run(0, 1)), of(t, run(100, bytesTo(0, 600)...))} {
			if got, ok := hexwrite.Sized(size, m); got != "" || ok {
				t.Errorf("Sized(%d) = %q, %v; want nothing and false", size, got, ok)
			}
		}
	}
}

// P4.2
func TestLines(t *testing.T) {
	for _, c := range []struct {
		m    *image.Image
		want int
	}{
		{nil, 1},
		{image.New(), 1},
		{of(t, run(0, 1)), 2},
		{of(t, run(9, bytesTo(0, 16)...)), 2},
		{of(t, run(9, bytesTo(0, 17)...)), 3},
		{of(t, run(16, bytesTo(0, 32)...)), 3},
		{of(t, run(0, 1), run(2, 1), run(4, 1)), 4},
		{of(t, run(0, 1), run(1, 1), run(2, 1)), 2},
		{of(t, run(0, make([]byte, 65536)...)), 4097},
		{of(t, run(1, make([]byte, 65535)...)), 4097},
	} {
		if got := hexwrite.Lines(c.m); got != c.want {
			t.Errorf("Lines = %d; want %d", got, c.want)
		}
	}
}

// P4.2
func TestJoin(t *testing.T) {
	for _, c := range []struct {
		l    []string
		want string
	}{
		{nil, ""},
		{[]string{}, ""},
		{[]string{""}, "\n"},
		{[]string{"a"}, "a\n"},
		{[]string{"a", "b"}, "a\nb\n"},
		{[]string{"", "b", ""}, "\nb\n\n"},
		{[]string{"a\n", "\nb"}, "a\n\n\nb\n"},
		{[]string{" a \r", "\x00\xff", "é"}, " a \r\n\x00\xff\né\n"},
		{[]string{"\n"}, "\n\n"},
	} {
		if got := hexwrite.Join(c.l...); got != c.want {
			t.Errorf("Join of %q = %q; want %q", c.l, got, c.want)
		}
	}
	if got := hexwrite.Join(); got != "" {
		t.Errorf("Join of nothing = %q", got)
	}
	l := []string{"a", "b", "c"}
	hexwrite.Join(l[:2]...)
	if !slices.Equal(l, []string{"a", "b", "c"}) {
		t.Errorf("Join changed its arguments to %q", l)
	}
	many := make([]string, 65536)
	if got := hexwrite.Join(many...); got != strings.Repeat("\n", 65536) {
		t.Errorf("Join of many strings has %d bytes", len(got))
	}
}

// P4.3
func TestDumpExamples(t *testing.T) {
	const whole = " 00 01 02 03 04 05 06 07 08 09 0A 0B 0C 0D 0E 0F\n"
	for _, c := range []struct {
		m    *image.Image
		want string
	}{
		{nil, ""},
		{image.New(), ""},
		{of(t, run(15, 1, 2)), "000F: 01\n0010: 02\n"},
		{of(t, run(14, 1)), "000E: 01\n"},
		{of(t, run(0, 0xab)), "0000: AB\n"},
		{of(t, run(65535, 255)), "FFFF: FF\n"},
		{of(t, run(0xfffe, 1, 2), run(0x1e, 7, 8, 9)), "001E: 07 08\n0020: 09\nFFFE: 01 02\n"},
		{of(t, run(0xabc0, bytesTo(0, 16)...)), "ABC0:" + whole},
		{of(t, run(0xabc0, bytesTo(0, 17)...)), "ABC0:" + whole + "ABD0: 10\n"},
		{of(t, run(0xfff0, bytesTo(0, 16)...)), "FFF0:" + whole},
		{of(t, run(0xffef, 0xe0), run(0xfff0, bytesTo(0, 16)...)), "FFEF: E0\nFFF0:" + whole},
		{of(t, run(0, bytesTo(0, 15)...)), "0000:" + strings.TrimSuffix(whole, " 0F\n") + "\n"},
		{of(t, run(0x30, 1), run(0x32, 2), run(0x34, 3)), "0030: 01\n0032: 02\n0034: 03\n"},
		{of(t, run(0x3f, 1), run(0x40, bytesTo(0, 16)...), run(0x50, 2)), "003F: 01\n0040:" + whole + "0050: 02\n"},
		{of(t, run(0x31, bytesTo(0xa0, 3)...), run(0x36, 0xb0)), "0031: A0 A1 A2\n0036: B0\n"},
	} {
		wantText(t, "Dump", hexwrite.Dump(c.m), c.want)
	}
}

// P4.3: runs of all lengths from all places within a line.
func TestDumpFirstAndLastLines(t *testing.T) {
	for offset := range 16 {
		for n := 1; n <= 50; n++ {
			for _, base := range []int{0, 0x1230, 65536 - 80} {
				m := of(t, run(base+offset, bytesTo(n, n)...))
				lines := slices.Collect(strings.Lines(hexwrite.Dump(m)))
				first := min(16-offset, n)
				if got := len(lines[0]); got != 6+3*first {
					t.Fatalf("%d bytes from %d on: the first line is %q", n, base+offset, lines[0])
				}
				if want := 1 + (n-first+15)/16; len(lines) != want {
					t.Fatalf("%d bytes from %d on: %d lines; want %d", n, base+offset, len(lines), want)
				}
				wantText(t, fmt.Sprintf("%d bytes from %d on", n, base+offset), strings.Join(lines, ""), dumpText(m))
			}
		}
	}
}

// P4.3: runs that end at the last address.
func TestDumpToTheEnd(t *testing.T) {
	for n := 1; n <= 50; n++ {
		m := of(t, run(65536-n, bytesTo(n, n)...))
		wantAll(t, fmt.Sprintf("%d bytes", n), m)
		last := strings.TrimSuffix(hexwrite.Dump(m), "\n")
		last = last[strings.LastIndex(last, "\n")+1:]
		if want := fmt.Sprintf("%04X:", 65536-min(n, 16)); last[:5] != want {
			t.Errorf("%d bytes: the last line begins with %q; want %q", n, last[:5], want)
		}
	}
}

// bytesOf returns the bytes that a HEX text without mistakes gives to
// addresses, without the packages of the program.
func bytesOf(t *testing.T, text string) map[int]byte {
	t.Helper()
	l := map[int]byte{}
	for line := range strings.Lines(strings.TrimSuffix(text, endLine)) {
		addr, err := strconv.ParseUint(line[3:7], 16, 16)
		if err != nil {
			t.Fatal(err)
		}
		for data := line[9 : len(line)-3]; data != ""; data = data[2:] {
			b, err := strconv.ParseUint(data[:2], 16, 8)
			if err != nil {
				t.Fatal(err)
			}
			l[int(addr)] = byte(b)
			addr++
		}
	}
	return l
}

// P4.4: the text has the whole contents of its image.
func TestTextHasTheImage(t *testing.T) {
	for name, m := range images(t) {
		for _, size := range []int{1, 16, 255} {
			text, _ := hexwrite.Sized(size, m)
			l := bytesOf(t, text)
			if len(l) != m.Len() {
				t.Errorf("%s: the text has %d bytes; want %d", name, len(l), m.Len())
			}
			for addr, b := range l {
				if want, ok := m.Get(addr); b != want || !ok {
					t.Fatalf("%s: the text has %d at %d; want %d, %v", name, b, addr, want, ok)
				}
			}
		}
	}
}

// P4.4: images with the same text are the same, and the other way around.
func TestSameTextSameImage(t *testing.T) {
	var l []*image.Image
	for _, addr := range []int{0, 1, 15, 16, 255, 256, 65534, 65535} {
		l = append(l, of(t, run(addr, 0)), of(t, run(addr, 1)), of(t, run(addr, 255)))
	}
	l = append(l, nil, image.New(), of(t, run(0, 0, 0)), of(t, run(0, 0), run(1, 0)), of(t, run(0, 0), run(2, 0)),
		of(t, run(0, 0, 1)), of(t, run(0, 1, 0)), of(t, run(0, bytesTo(0, 16)...)), of(t, run(0, bytesTo(0, 17)...)),
		of(t, run(0, bytesTo(0, 15)...), run(16, 0)), of(t, run(16, 1), run(0, bytesTo(0, 16)...)))
	for _, a := range l {
		for _, b := range l {
			same := image.Same(a, b)
			if got := hexwrite.Write(a) == hexwrite.Write(b); got != same {
				t.Fatalf("%q and %q: the images are the same: %v", hexwrite.Write(a), hexwrite.Write(b), same)
			}
		}
	}
}

// P4.4
func TestLengthOfLines(t *testing.T) {
	for name, m := range images(t) {
		for line := range strings.Lines(hexwrite.Write(m)) {
			if n := len(strings.TrimSuffix(line, "\n")); n > 43 {
				t.Fatalf("%s: a line has %d bytes", name, n)
			}
		}
	}
	text := hexwrite.Write(of(t, run(0, bytesTo(0, 16)...)))
	if n := strings.Index(text, "\n"); n != 43 {
		t.Errorf("a line with 16 data bytes has %d bytes", n)
	}
}

// All functions leave the image as it is, and return the same again.
func TestImagesAreNotChanged(t *testing.T) {
	for name, m := range images(t) {
		before := m.Clone()
		first := hexwrite.Write(m) + hexwrite.Dump(m)
		hexwrite.Sized(3, m)
		hexwrite.Lines(m)
		if !image.Same(m, before) {
			t.Errorf("%s: the image is another one", name)
		}
		if hexwrite.Write(m)+hexwrite.Dump(m) != first {
			t.Errorf("%s: the texts are other ones", name)
		}
	}
}

// The functions may be called concurrently, with an image of their own.
func TestConcurrentCalls(t *testing.T) {
	var all sync.WaitGroup
	for i := range 8 {
		m := of(t, run(i*100, bytesTo(i, 50+i)...))
		want, dump := hexText(16, m), dumpText(m)
		all.Go(func() {
			for range 50 {
				if hexwrite.Write(m) != want || hexwrite.Dump(m) != dump {
					t.Error("another text")
				}
			}
		})
	}
	all.Wait()
}
