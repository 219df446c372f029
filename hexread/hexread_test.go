package hexread_test

import (
	"fmt"
	"math/rand"
	"regexp"
	"slices"
	"strconv"
	"strings"
	"sync"
	"testing"

	"breadboard/api"
	"breadboard/hexread"
	"breadboard/hexwrite"
	"breadboard/image"
)

const end = ":00000001FF\n"

func run(addr int, b ...byte) image.Run { return image.Run{Addr: addr, Data: b} }

// bytesTo returns n bytes that count up from a first one.
func bytesTo(first, n int) []byte {
	b := make([]byte, n)
	for i := range b {
		b[i] = byte(first + i)
	}
	return b
}

// of returns an image with the given runs.
func of(t *testing.T, l ...image.Run) *image.Image {
	t.Helper()
	m, code := image.Of(l...)
	if code != api.OK {
		t.Fatalf("the runs cannot be put: %v", code)
	}
	return m
}

// random returns an image with up to n ranges of up to size bytes, some of
// which follow each other without a gap.
func random(r *rand.Rand, n, size int) *image.Image {
	m := image.New()
	for range r.Intn(n + 1) {
		b := make([]byte, 1+r.Intn(size))
		r.Read(b)
		m.Put(r.Intn(65537-len(b)), b...)
	}
	return m
}

// images returns images of all sorts, with names.
func images(t *testing.T) map[string]*image.Image {
	every := make([]image.Run, 0, 32768)
	for addr := 1; addr < 65536; addr += 2 {
		every = append(every, run(addr, byte(addr>>8)))
	}
	return map[string]*image.Image{
		"empty":         image.New(),
		"first":         of(t, run(0, 0)),
		"last":          of(t, run(65535, 255)),
		"both ends":     of(t, run(0, 1), run(65535, 2)),
		"full":          of(t, run(0, bytesTo(3, 65536)...)),
		"all but first": of(t, run(1, bytesTo(3, 65535)...)),
		"all but last":  of(t, run(0, bytesTo(3, 65535)...)),
		"a gap":         of(t, run(0, bytesTo(3, 40000)...), run(40001, bytesTo(3, 25535)...)),
		"every second":  of(t, every...),
		"some runs":     of(t, run(300, 1, 2), run(4, 3), run(100, bytesTo(9, 20)...), run(2, 5, 6)),
		"to the end":    of(t, run(65500, bytesTo(0, 36)...)),
		"zeros":         of(t, run(0x1000, make([]byte, 50)...)),
		"across a page": of(t, run(0xff, 1, 2), run(0xfffe, 3)),
	}
}

// rec returns a line with the right length and checksum, without the packages
// of the program and without a line feed.
func rec(kind, addr int, b ...byte) string {
	sum := len(b) + addr/256 + addr%256 + kind
	for _, c := range b {
		sum += int(c)
	}
	return fmt.Sprintf(":%02X%04X%02X%X%02X", len(b), addr, kind, b, (256-sum%256)%256)
}

// spoil returns a line with the next checksum, which is a wrong one.
func spoil(line string) string {
	n, _ := strconv.ParseUint(line[len(line)-2:], 16, 8)
	return line[:len(line)-2] + fmt.Sprintf("%02X", byte(n+1))
}

// text puts a line feed after each line.
func text(lines ...string) string { return strings.Join(append(lines, ""), "\n") }

var (
	blankLine = regexp.MustCompile(`\A[ \t]*\r?\z`)
	rightLine = regexp.MustCompile(`\A:([0-9A-Fa-f][0-9A-Fa-f]){5,}\r?\z`)
)

// lineModel returns the code of one line, and puts its data into l.
func lineModel(line string, ended *bool, l map[int]byte) api.Code {
	if blankLine.MatchString(line) {
		return api.OK
	}
	if *ended {
		return api.ErrAfter
	}
	if !rightLine.MatchString(line) {
		return api.ErrSyntax
	}
	var b []byte
	sum := 0
	for digits := strings.TrimSuffix(line[1:], "\r"); digits != ""; digits = digits[2:] {
		n, _ := strconv.ParseUint(digits[:2], 16, 8)
		b = append(b, byte(n))
		sum += int(n)
	}
	addr, data := int(b[1])*256+int(b[2]), b[4:len(b)-1]
	switch {
	case int(b[0]) != len(data):
		return api.ErrLength
	case sum%256 != 0:
		return api.ErrSum
	case b[3] == 1 && len(data) > 0:
		return api.ErrLength
	case b[3] == 1:
		*ended = true
		return api.OK
	case b[3] != 0:
		return api.ErrType
	case addr+len(data) > 65536:
		return api.ErrWrap
	}
	for i := range data {
		if _, ok := l[addr+i]; ok {
			return api.ErrOverlap
		}
	}
	for i, c := range data {
		l[addr+i] = c
	}
	return api.OK
}

// model is Read without the packages of the program; the map says which
// addresses have which bytes.
func model(text string) (map[int]byte, api.Fault) {
	l, ended := map[int]byte{}, false
	for i, line := range strings.Split(text, "\n") {
		if code := lineModel(line, &ended, l); code != api.OK {
			return nil, api.Fault{Line: i + 1, Code: code}
		}
	}
	if !ended {
		return nil, api.Fault{Line: 0, Code: api.ErrEnd}
	}
	return l, api.Fault{}
}

// short returns a text, or the beginning of a long one.
func short(text string) string {
	if len(text) > 200 {
		return fmt.Sprintf("%q and %d more bytes", text[:200], len(text)-200)
	}
	return strconv.Quote(text)
}

// wantImage tests for the contents that a map says.
func wantImage(t *testing.T, what string, m *image.Image, l map[int]byte) {
	t.Helper()
	if m == nil || m.Len() != len(l) {
		t.Fatalf("%s: an image with %d bytes (nil: %v); want %d", what, m.Len(), m == nil, len(l))
	}
	for addr, b := range l {
		if got, ok := m.Get(addr); got != b || !ok {
			t.Fatalf("%s: %d, %v at %d; want %d", what, got, ok, addr, b)
		}
	}
}

// wantRead tests Read, Accepts and Normal with the model.
func wantRead(t *testing.T, text string) api.Fault {
	t.Helper()
	l, want := model(text)
	m, fault := hexread.Read(text)
	if fault != want {
		t.Fatalf("Read of %s: %v; want %v", short(text), fault, want)
	}
	right := want == api.Fault{}
	if right {
		wantImage(t, "Read of "+short(text), m, l)
	} else if m != nil {
		t.Fatalf("Read of %s: an image beside %v", short(text), fault)
	}
	if got := hexread.Accepts(text); got != right {
		t.Fatalf("Accepts of %s: %v", short(text), got)
	}
	normal, fault := hexread.Normal(text)
	if fault != want || right && normal != hexwrite.Write(m) || !right && normal != "" {
		t.Fatalf("Normal of %s: %s, %v; want %v", short(text), short(normal), fault, want)
	}
	return want
}

// wantFault tests for a Fault that is written down.
func wantFault(t *testing.T, text string, line int, code api.Code) {
	t.Helper()
	if got, want := wantRead(t, text), (api.Fault{Line: line, Code: code}); got != want {
		t.Errorf("the model has %v for %s; want %v", got, short(text), want)
	}
}

// wantRuns tests for the image of a text that is accepted.
func wantRuns(t *testing.T, text string, l ...image.Run) {
	t.Helper()
	wantFault(t, text, 0, api.OK)
	if m, _ := hexread.Read(text); !image.Same(m, of(t, l...)) {
		t.Errorf("Read of %s: %v; want %v", short(text), m.Runs(), l)
	}
}

// P5.1
func TestReadAccepted(t *testing.T) {
	wantRuns(t, end)
	wantRuns(t, ":00000001ff")
	wantRuns(t, ":00000001fF\r")
	wantRuns(t, ":00000001FF\r\n")
	wantRuns(t, ":01000500C337\n"+end, run(5, 0xc3))
	wantRuns(t, ":01000500c337\r\n:00000001ff", run(5, 0xc3))
	wantRuns(t, ":020000003E05BB\n"+end, run(0, 0x3e, 5))
	wantRuns(t, ":01FFFF000001\n"+end, run(65535, 0))
	wantRuns(t, ":02abcd000ef088\n"+end, run(0xabcd, 0x0e, 0xf0))
	wantRuns(t, ":02ABCD000ef088\n"+end, run(0xabcd, 0x0e, 0xf0))
	wantRuns(t, ":0101000002FC\n:0102000001FC\n"+end, run(0x100, 2), run(0x200, 1))
	wantRuns(t, ":0102000001FC\n:0101000002FC\n"+end, run(0x100, 2), run(0x200, 1))
	wantRuns(t, text(rec(0, 7, 3), rec(0, 5, 1, 2), rec(0, 8, 4), end), run(5, 1, 2, 3, 4))
	wantRuns(t, text(rec(0, 9, bytesTo(1, 255)...), rec(0, 264, 0), end), run(9, bytesTo(1, 256)...))
}

// P5.1
func TestReadBlankLines(t *testing.T) {
	for _, blank := range []string{"", " ", "\t", "  \t \t", "\r", " \r", "\t\r", " \t\r"} {
		wantFault(t, blank, 0, api.ErrEnd)
		wantFault(t, blank+"\n", 0, api.ErrEnd)
		wantFault(t, text(blank, blank, blank), 0, api.ErrEnd)
		wantFault(t, text(blank, blank, "x"), 3, api.ErrSyntax)
		wantFault(t, text(blank, rec(0, 5, 1), blank, rec(0, 5, 1)), 4, api.ErrOverlap)
		wantFault(t, text(blank, ":00000001FF", blank, blank, "x"), 5, api.ErrAfter)
		wantRuns(t, text(blank, rec(0, 5, 1), blank, blank, rec(0, 7, 2), ":00000001FF", blank, blank), run(5, 1), run(7, 2))
		wantRuns(t, end+blank)
	}
	wantRuns(t, strings.Repeat("\n", 70000)+end)
	wantRuns(t, end+strings.Repeat(" \r\n", 70000))
	wantFault(t, strings.Repeat("\n", 70000)+"x", 70001, api.ErrSyntax)
	wantFault(t, end+strings.Repeat("\t", 70000)+"x", 2, api.ErrAfter)
}

// P5.1: what looks blank and is not.
func TestReadLinesThatAreNotBlank(t *testing.T) {
	for _, line := range []string{
		"\r\r", "\r ", " \r\t", "\r\t\r", "\v", "\f", "\x00", "\u00a0", "\u2003", "\u0085", "\xa0", "\xff", "\b", " . ", ";", "\ufeff",
	} {
		wantFault(t, line, 1, api.ErrSyntax)
		wantFault(t, text(line, ":00000001FF"), 1, api.ErrSyntax)
		wantFault(t, text("", rec(0, 1, 2), line, ":00000001FF"), 3, api.ErrSyntax)
		wantFault(t, end+line, 2, api.ErrAfter)
		wantFault(t, end+"\n"+line+"\n", 3, api.ErrAfter)
	}
}

// P5.1: what stands beside a record belongs to its line, but for one byte 13
// at its end.
func TestReadLineEnds(t *testing.T) {
	for _, line := range []string{rec(0, 5, 1), ":00000001FF"} {
		for _, wrong := range []string{
			" " + line, "\t" + line, line + " ", line + "\t", line + " \r", line + "\r\r", line + "\r ", "\r" + line, line + "\r" + line,
			line + line, line + "\x00", line + "\v", "\ufeff" + line, line[1:], ":" + line, line + ";", line + "\f\r", line[:4] + "\r" + line[4:],
			line[:4] + "\n" + line[4:], line + "0", line[:len(line)-1], ";" + line, line[:len(line)-1] + "\r",
		} {
			wantFault(t, wrong, 1, api.ErrSyntax)
			wantFault(t, "\n"+wrong, 2, api.ErrSyntax)
		}
	}
	wantRuns(t, rec(0, 5, 1)+"\r\n"+rec(0, 6, 2)+"\n:00000001FF\r", run(5, 1, 2))
	wantFault(t, rec(0, 5, 1)+"\r"+end, 1, api.ErrSyntax)
}

// P5.1: a single wrong line, alone, between others, and with the End missing.
func TestReadFaultyLines(t *testing.T) {
	for line, code := range map[string]api.Code{
		"x":                                 api.ErrSyntax,
		":":                                 api.ErrSyntax,
		":00":                               api.ErrSyntax,
		":000000FF":                         api.ErrSyntax,
		":00000001F":                        api.ErrSyntax,
		":0000000 1FF":                      api.ErrSyntax,
		":0000000gFF":                       api.ErrSyntax,
		"00000001FF":                        api.ErrSyntax,
		";00000001FF":                       api.ErrSyntax,
		":+0000001FF":                       api.ErrSyntax,
		":01000000FF":                       api.ErrLength,
		":02000500C336":                     api.ErrLength,
		":00000500C338":                     api.ErrLength,
		":0000000000":                       api.ErrEnd,
		":01000500C338":                     api.ErrSum,
		":01000500C300":                     api.ErrSum,
		":0000000100":                       api.ErrSum,
		":00000002FE":                       api.ErrType,
		":020000021000EC":                   api.ErrType,
		":020000040000FA":                   api.ErrType,
		":04000005000000CD2A":               api.ErrType,
		":0100000100FE":                     api.ErrLength,
		":02FFFF000102FD":                   api.ErrWrap,
		":03FFFE00010203FA":                 api.ErrWrap,
		rec(0, 65535, make([]byte, 255)...): api.ErrWrap,
		rec(0, 65282, make([]byte, 255)...): api.ErrWrap,
	} {
		if code == api.ErrEnd {
			wantFault(t, line, 0, code)
			continue
		}
		wantFault(t, line, 1, code)
		wantFault(t, line+"\r\n"+line, 1, code)
		wantFault(t, text(line, ":00000001FF"), 1, code)
		wantFault(t, text(rec(0, 5, 1), "", line, ":00000001FF"), 3, code)
		wantFault(t, text(":00000001FF", "", line), 3, api.ErrAfter)
	}
}

// P5.1: the first wrong line counts, whatever is wrong with later ones.
func TestReadFirstWrongLine(t *testing.T) {
	wrong := map[string]api.Code{
		"x": api.ErrSyntax, ":02000500C337": api.ErrLength, ":01000500C338": api.ErrSum, rec(7, 0): api.ErrType,
		rec(0, 65535, 1, 2): api.ErrWrap, rec(0, 1, 2): api.ErrOverlap, rec(1, 0, 1): api.ErrLength,
	}
	for a, code := range wrong {
		for b := range wrong {
			wantFault(t, text(rec(0, 1, 1), a, b, ":00000001FF"), 2, code)
			wantFault(t, text(rec(0, 1, 1), a, b), 2, code)
			wantFault(t, text(rec(0, 1, 1), "", a, ":00000001FF", b), 3, code)
			wantFault(t, text(rec(0, 1, 1), ":00000001FF", a, b), 3, api.ErrAfter)
		}
	}
}

// P5.1: two codes that could apply to the same line.
func TestReadOrderOfCodes(t *testing.T) {
	const first = ":03FFFD00010203FB" // from 65533 on
	for _, c := range []struct {
		line string
		code api.Code
	}{
		{":05FFFF0", api.ErrSyntax},                          // and the length, of too few digits
		{":00000002FEx", api.ErrSyntax},                      // and the type
		{":01000500C33", api.ErrSyntax},                      // and the checksum
		{":02FFFD0007", api.ErrLength},                       // and the checksum
		{":0200000700F7", api.ErrLength},                     // and the type
		{":04FFFD00010203FA", api.ErrLength},                 // and the address that has a byte
		{":04FFFF000102FB", api.ErrLength},                   // and the address
		{":0100000100FF", api.ErrSum},                        // and an End with data
		{spoil(rec(2, 0, 1)), api.ErrSum},                    // and the type
		{spoil(rec(0, 65535, 1, 2)), api.ErrSum},             // and the address
		{spoil(rec(0, 65533, 1)), api.ErrSum},                // and the address that has a byte
		{rec(2, 65535, 1, 2), api.ErrType},                   // and the address
		{rec(3, 65533, 1), api.ErrType},                      // and the address that has a byte
		{rec(255, 0, 1), api.ErrType},                        // and data of no Data
		{rec(0, 65533, 1, 2, 3, 4), api.ErrWrap},             // and the address that has a byte
		{rec(0, 65535, 1, 2), api.ErrWrap},                   // and the address that has a byte
		{rec(0, 65530, bytesTo(0, 255)...), api.ErrWrap},     // and the address that has a byte
		{rec(1, 65533, 1), api.ErrLength},                    // and the address that has a byte
		{rec(1, 65535, 1, 2), api.ErrLength},                 // and the address
		{rec(1, 0, bytesTo(0, 255)...), api.ErrLength},       // an End with much data
		{rec(0, 65533, 1, 2, 3), api.ErrOverlap},             // the same line again
		{rec(0, 65500, bytesTo(0, 34)...), api.ErrOverlap},   // with its last byte
		{rec(0, 65535, 3), api.ErrOverlap},                   // the byte that is there
		{strings.ToLower(rec(0, 65534, 0)), api.ErrOverlap},  // another byte
		{":01000100FE01", api.ErrSum},                        // the type of an End in the wrong place
		{"::03FFFD00010203FB", api.ErrSyntax},                // the record that is there
		{strings.Repeat("0", 100000) + "1", api.ErrSyntax},   // no colon
		{":FF" + strings.Repeat("0", 100000), api.ErrLength}, // too many bytes
	} {
		wantFault(t, text(first, c.line), 2, c.code)
		wantFault(t, text(first, c.line, ":00000001FF"), 2, c.code)
		wantFault(t, text(first, ":00000001FF", c.line), 3, api.ErrAfter)
	}
}

// P5.1
func TestReadEnd(t *testing.T) {
	for _, addr := range []int{0, 1, 255, 256, 0x1234, 65534, 65535} {
		wantRuns(t, rec(1, addr))
		wantRuns(t, text(rec(0, addr, 9), rec(1, addr)), run(addr, 9))
		for _, n := range []int{1, 2, 16, 254, 255} {
			wantFault(t, rec(1, addr, make([]byte, n)...), 1, api.ErrLength)
			wantFault(t, text("", rec(1, addr, make([]byte, n)...), ":00000001FF"), 2, api.ErrLength)
		}
	}
	wantFault(t, rec(0, 5, 1), 0, api.ErrEnd)
	wantFault(t, text(rec(0, 5, 1), "", rec(0, 6, 1), ""), 0, api.ErrEnd)
	wantFault(t, rec(0, 5), 0, api.ErrEnd)
	wantFault(t, end+end, 2, api.ErrAfter)
	wantFault(t, text(rec(1, 0), "", rec(1, 5)), 3, api.ErrAfter)
	wantFault(t, end+rec(0, 5, 1), 2, api.ErrAfter)
	wantFault(t, end+rec(0, 5), 2, api.ErrAfter)
	wantFault(t, end+"\n\n\n:", 5, api.ErrAfter)
}

// P5.1: all types.
func TestReadTypes(t *testing.T) {
	for kind := range 256 {
		line := rec(kind, 0x1234)
		switch kind {
		case 0:
			wantFault(t, line, 0, api.ErrEnd)
			wantRuns(t, text(line, ":00000001FF"))
		case 1:
			wantRuns(t, line)
			wantFault(t, text(line, ":00000001FF"), 2, api.ErrAfter)
		default:
			wantFault(t, line, 1, api.ErrType)
			wantFault(t, text(rec(kind, 0, 1, 2), ":00000001FF"), 1, api.ErrType)
			wantFault(t, text(rec(0, 0, 1), rec(kind, 0, 1)), 2, api.ErrType)
		}
	}
}

// P5.1: records without data have no addresses.
func TestReadDataWithoutBytes(t *testing.T) {
	for _, addr := range []int{0, 5, 65535} {
		wantRuns(t, text(rec(0, addr), rec(0, addr), ":00000001FF"))
		wantRuns(t, text(rec(0, addr), rec(0, addr, 7), rec(0, addr), ":00000001FF"), run(addr, 7))
	}
}

// P5.1: data up to the last address and beyond it.
func TestReadLastAddress(t *testing.T) {
	for n := 1; n <= 255; n++ {
		b := bytesTo(n, n)
		wantRuns(t, text(rec(0, 65536-n, b...), ":00000001FF"), run(65536-n, b...))
		wantFault(t, text(rec(0, 65535, 1), rec(0, 65536-n, b...), ":00000001FF"), 2, api.ErrOverlap)
		if n > 1 {
			wantFault(t, text(rec(0, 65537-n, b...), ":00000001FF"), 1, api.ErrWrap)
			wantFault(t, text(rec(0, 65535, b...), ":00000001FF"), 1, api.ErrWrap)
		}
	}
	wantRuns(t, text(rec(0, 0, 1), rec(0, 65535, 2), ":00000001FF"), run(0, 1), run(65535, 2))
	wantFault(t, text(rec(0, 65535, 2, 1), ":00000001FF"), 1, api.ErrWrap)
}

// P5.1: records that touch, and that have one address in common.
func TestReadOverlap(t *testing.T) {
	const addr, n = 1000, 10
	first := rec(0, addr, bytesTo(0, n)...)
	for from := addr - 20; from <= addr+20; from++ {
		for _, size := range []int{1, 2, 9, 10, 11, 40} {
			code, line := api.OK, 0
			if from < addr+n && from+size > addr {
				code, line = api.ErrOverlap, 2
			}
			wantFault(t, text(first, rec(0, from, make([]byte, size)...), ":00000001FF"), line, code)
		}
	}
	wantFault(t, text(rec(0, 0, 1), rec(0, 65535, 1), rec(0, 0, 1), ":00000001FF"), 3, api.ErrOverlap)
	wantFault(t, text(rec(0, 9, 0), rec(0, 9, 0)), 2, api.ErrOverlap)
}

// randomLine returns a line that is right, or wrong in one of many ways.
func randomLine(r *rand.Rand) string {
	b := make([]byte, r.Intn(6))
	r.Read(b)
	line := rec(0, r.Intn(60), b...)
	switch r.Intn(40) {
	case 0:
		line = spoil(line)
	case 1:
		line = line[:r.Intn(len(line))]
	case 2:
		line = rec(r.Intn(256), r.Intn(60), b...)
	case 3:
		line = rec(0, 65540-r.Intn(5)-5, b...)
	case 4:
		i := r.Intn(len(line))
		line = line[:i] + string(rune(r.Intn(128))) + line[i+1:]
	case 5:
		line = rec(1, r.Intn(60), b...)
	case 6, 7, 8:
		line = rec(1, r.Intn(65536))
	case 9, 10, 11, 12:
		line = strings.Repeat(" ", r.Intn(3)) + strings.Repeat("\t", r.Intn(2))
	case 13, 14, 15:
		line = strings.ToLower(line)
	}
	return line + strings.Repeat("\r", r.Intn(10)/9*(1+r.Intn(40)/39))
}

// P5.1, P5.2: random texts, with the model.
func TestRandomTexts(t *testing.T) {
	r := rand.New(rand.NewSource(5))
	found := map[api.Code]int{}
	for range 6000 {
		lines := make([]string, r.Intn(9))
		for i := range lines {
			lines[i] = randomLine(r)
		}
		s := strings.Join(lines, "\n")
		if r.Intn(3) > 0 {
			s += "\n" + end
		}
		found[wantRead(t, s).Code]++
	}
	for _, code := range []api.Code{
		api.OK, api.ErrAfter, api.ErrSyntax, api.ErrLength, api.ErrSum, api.ErrType, api.ErrWrap, api.ErrOverlap, api.ErrEnd,
	} {
		if found[code] < 5 {
			t.Errorf("%v comes %d times only", code, found[code])
		}
	}
}

// P5.1, P5.2: a right text in which one byte is another one, missing, or added.
func TestChangedTexts(t *testing.T) {
	s := "\n" + rec(0, 0xa5, 1, 2, 0xfe) + "\r\n" + rec(0, 0xa8, 7) + "\n" + end + "\n"
	wantRuns(t, s, run(0xa5, 1, 2, 0xfe, 7))
	for i := range len(s) {
		wantRead(t, s[:i])
		wantRead(t, s[i:])
		wantRead(t, s[:i]+s[i+1:])
		for _, c := range []byte("\n\r \t:0123456789abcdefABCDEFgG@`/\x00\x7f\xff") {
			wantRead(t, s[:i]+string([]byte{c})+s[i+1:])
			wantRead(t, s[:i]+string([]byte{c})+s[i:])
		}
	}
}

// P5.2
func TestAccepts(t *testing.T) {
	for s, want := range map[string]bool{
		"": false, "\n": false, " ": false, end: true, ":00000001ff": true, end + "x": false, "x\n" + end: false, end + " \t\r\n": true,
		end + end: false, ":01000500C337\n": false, ":01000500C337\n" + end: true, ":01000500C337\n:01000500C337\n" + end: false,
	} {
		if got := hexread.Accepts(s); got != want {
			t.Errorf("Accepts(%q) = %v", s, got)
		}
	}
}

// P5.2
func TestNormal(t *testing.T) {
	for _, c := range []struct{ text, want string }{
		{end, end},
		{":00000001ff", end},
		{":00123401B9\r\n\n", end},
		{"\n \n:00000500FB\n" + end, end},
		{":020006000102F5\n:01000500c337\n" + end, ":03000500C3010232\n" + end},
		{":0102000001fc\r\n:0101000002fc\r\n:00000001ff\r\n", ":0101000002FC\n:0102000001FC\n" + end},
		{text(rec(0, 16, bytesTo(16, 2)...), rec(0, 0, bytesTo(0, 16)...), ":00000001FF"), text(rec(0, 0, bytesTo(0, 16)...), rec(0, 16, 16, 17)) + end},
		{text(rec(0, 7, bytesTo(0, 20)...), rec(1, 9)), text(rec(0, 7, bytesTo(0, 16)...), rec(0, 23, 16, 17, 18, 19)) + end},
		{text(rec(0, 65535, 1), rec(0, 0, 2), ":00000001FF"), text(rec(0, 0, 2), rec(0, 65535, 1)) + end},
	} {
		got, fault := hexread.Normal(c.text)
		if got != c.want || fault != (api.Fault{}) {
			t.Errorf("Normal(%q) = %q, %v; want %q", c.text, got, fault, c.want)
		}
		if got, fault := hexread.Normal(c.want); got != c.want || fault != (api.Fault{}) {
			t.Errorf("Normal(%q) = %q, %v", c.want, got, fault)
		}
	}
	for s, want := range map[string]api.Fault{
		"":                        {Code: api.ErrEnd},
		":01000500C337\n":         {Code: api.ErrEnd},
		":01000500C337\nx\n":      {Line: 2, Code: api.ErrSyntax},
		end + "\nx":               {Line: 3, Code: api.ErrAfter},
		"\n:00000001FE":           {Line: 2, Code: api.ErrSum},
		":02FFFF000102FD\n" + end: {Line: 1, Code: api.ErrWrap},
	} {
		if got, fault := hexread.Normal(s); got != "" || fault != want {
			t.Errorf("Normal(%q) = %q, %v; want %v", s, got, fault, want)
		}
	}
}

// wantMerged tests for the image of texts that can be merged.
func wantMerged(t *testing.T, texts []string, l ...image.Run) {
	t.Helper()
	m, i, fault := hexread.Merge(texts...)
	if m == nil || i != 0 || fault != (api.Fault{}) {
		t.Fatalf("Merge of %q: %d, %v (nil: %v)", texts, i, fault, m == nil)
	}
	if want := of(t, l...); !image.Same(m, want) {
		t.Errorf("Merge of %q: %v; want %v", texts, m.Runs(), want.Runs())
	}
}

// wantNotMerged tests for a fault of texts.
func wantNotMerged(t *testing.T, texts []string, index, line int, code api.Code) {
	t.Helper()
	m, i, fault := hexread.Merge(texts...)
	if m != nil || i != index || fault != (api.Fault{Line: line, Code: code}) {
		t.Errorf("Merge of %q: %d, %v (nil: %v); want %d, %d, %v", texts, i, fault, m == nil, index, line, code)
	}
}

// P5.3
func TestMerge(t *testing.T) {
	a, b, c := text(rec(0, 5, 1, 2, 3))+end, text(rec(0, 100, 4))+end, text(rec(0, 8, 5), rec(0, 65535, 6))+end
	wantMerged(t, nil)
	wantMerged(t, []string{})
	wantMerged(t, []string{end})
	wantMerged(t, []string{end, end, " \n" + end})
	wantMerged(t, []string{a}, run(5, 1, 2, 3))
	wantMerged(t, []string{a, b}, run(5, 1, 2, 3), run(100, 4))
	wantMerged(t, []string{b, a}, run(5, 1, 2, 3), run(100, 4))
	wantMerged(t, []string{c, end, a, b}, run(5, 1, 2, 3, 5), run(100, 4), run(65535, 6))
	wantMerged(t, []string{a, text(rec(0, 5), rec(0, 65535)) + end, b}, run(5, 1, 2, 3), run(100, 4))
	if m, i, fault := hexread.Merge(); m == nil || m.Len() != 0 || i != 0 || fault != (api.Fault{}) {
		t.Errorf("Merge of nothing: %d, %v", i, fault)
	}
}

// P5.3
func TestMergeFaults(t *testing.T) {
	a, b := text(rec(0, 5, 1, 2, 3))+end, text(rec(0, 100, 4))+end
	wantNotMerged(t, []string{""}, 0, 0, api.ErrEnd)
	wantNotMerged(t, []string{"\nx"}, 0, 2, api.ErrSyntax)
	wantNotMerged(t, []string{a, ""}, 1, 0, api.ErrEnd)
	wantNotMerged(t, []string{a, "\nx"}, 1, 2, api.ErrSyntax)
	wantNotMerged(t, []string{a, b, end + "\n" + end}, 2, 3, api.ErrAfter)
	wantNotMerged(t, []string{"\nx", ""}, 0, 2, api.ErrSyntax)
	wantNotMerged(t, []string{a, ":00000001FE", "x", a}, 1, 1, api.ErrSum)
	wantNotMerged(t, []string{a, text(rec(0, 65535, 1, 2)) + end}, 1, 1, api.ErrWrap)
	// An End in one text does not end the others.
	wantNotMerged(t, []string{end, rec(0, 5, 1)}, 1, 0, api.ErrEnd)
	wantNotMerged(t, []string{rec(0, 5, 1), end}, 0, 0, api.ErrEnd)
}

// P5.3: addresses of two texts, and of one text twice.
func TestMergeOverlap(t *testing.T) {
	a, b := text(rec(0, 5, 1, 2, 3))+end, text(rec(0, 100, 4))+end
	wantNotMerged(t, []string{a, a}, 1, 0, api.ErrOverlap)
	wantNotMerged(t, []string{a, b, a}, 2, 0, api.ErrOverlap)
	wantNotMerged(t, []string{a, b, b, a}, 2, 0, api.ErrOverlap)
	wantNotMerged(t, []string{a, text(rec(0, 7, 3)) + end, "x"}, 1, 0, api.ErrOverlap)
	wantNotMerged(t, []string{a, end, text("", rec(0, 90, 1), rec(0, 0, bytesTo(0, 6)...)) + end}, 2, 0, api.ErrOverlap)
	wantNotMerged(t, []string{b, text(rec(0, 99, 1, 2, 3)) + end}, 1, 0, api.ErrOverlap)
	wantNotMerged(t, []string{text(rec(0, 9, 1), rec(0, 9, 1)) + end, b}, 0, 2, api.ErrOverlap)
	// What is wrong with a text itself comes first.
	wantNotMerged(t, []string{a, text(rec(0, 5, 1), "x")}, 1, 2, api.ErrSyntax)
	wantNotMerged(t, []string{a, rec(0, 5, 1)}, 1, 0, api.ErrEnd)
	wantNotMerged(t, []string{a, text(rec(0, 5, 1), "", rec(0, 5, 1)) + end}, 1, 3, api.ErrOverlap)
	wantMerged(t, []string{text(rec(0, 0, bytesTo(0, 5)...)) + end, a, text(rec(0, 8, 9)) + end}, run(0, 0, 1, 2, 3, 4, 1, 2, 3, 9))
}

// P5.3: the pieces of an image give it again, in every order.
func TestMergePieces(t *testing.T) {
	r := rand.New(rand.NewSource(53))
	for range 30 {
		m := random(r, 20, 300)
		var texts []string
		for _, part := range m.Runs() {
			texts = append(texts, hexwrite.Write(of(t, part)))
		}
		r.Shuffle(len(texts), func(i, j int) { texts[i], texts[j] = texts[j], texts[i] })
		got, i, fault := hexread.Merge(texts...)
		if !image.Same(got, m) || got == nil || i != 0 || fault != (api.Fault{}) {
			t.Fatalf("%d pieces: %d, %v", len(texts), i, fault)
		}
		for j := range texts {
			wantNotMerged(t, append(slices.Clone(texts), texts[j], "x"), len(texts), 0, api.ErrOverlap)
		}
	}
}

// contents returns for each address 0, or 1 more than its byte.
func contents(m *image.Image) []int {
	l := make([]int, 65536)
	for _, part := range m.Runs() {
		for i, c := range part.Data {
			l[part.Addr+i] = int(c) + 1
		}
	}
	return l
}

// diffModel is Diff for contents.
func diffModel(a, b []int) []int {
	var l []int
	for addr := range a {
		if a[addr] != b[addr] {
			l = append(l, addr)
		}
	}
	return l
}

// P5.4
func TestDiff(t *testing.T) {
	c := of(t, run(5, 1, 2, 3), run(9, 9))
	for _, x := range []struct {
		a, b *image.Image
		want []int
	}{
		{nil, nil, nil},
		{nil, image.New(), nil},
		{image.New(), image.New(), nil},
		{c, c, nil},
		{c, c.Clone(), nil},
		{c, nil, []int{5, 6, 7, 9}},
		{c, image.New(), []int{5, 6, 7, 9}},
		{c, of(t, run(2, 2), run(5, 1, 7, 3)), []int{2, 6, 9}},
		{of(t, run(5, 0)), nil, []int{5}},
		{of(t, run(5, 0)), of(t, run(6, 0)), []int{5, 6}},
		{of(t, run(5, 0)), of(t, run(5, 0)), nil},
		{of(t, run(5, 0)), of(t, run(5, 255)), []int{5}},
		{of(t, run(0, 1), run(65535, 2)), nil, []int{0, 65535}},
		{of(t, run(0, 1), run(65535, 2)), of(t, run(0, 2), run(65535, 1)), []int{0, 65535}},
		{of(t, run(65534, 1, 2)), of(t, run(65534, 1)), []int{65535}},
	} {
		if got := hexread.Diff(x.a, x.b); !slices.Equal(got, x.want) {
			t.Errorf("Diff of %v and %v: %v; want %v", x.a.Runs(), x.b.Runs(), got, x.want)
		}
		if got := hexread.Diff(x.b, x.a); !slices.Equal(got, x.want) {
			t.Errorf("Diff of %v and %v: %v; want %v", x.b.Runs(), x.a.Runs(), got, x.want)
		}
	}
	full := of(t, run(0, make([]byte, 65536)...))
	if got := hexread.Diff(nil, full); len(got) != 65536 || got[0] != 0 || got[65535] != 65535 || !slices.IsSorted(got) {
		t.Errorf("Diff of nil and a full image has %d addresses", len(got))
	}
}

// P5.4
func TestDiffOfAllSortsOfImages(t *testing.T) {
	all := images(t)
	all["nil"] = nil
	r := rand.New(rand.NewSource(54))
	for i := range 12 {
		all["random "+strconv.Itoa(i)] = random(r, 30, 1+i*i*20)
	}
	for name, a := range all {
		for other, b := range all {
			got, want := hexread.Diff(a, b), diffModel(contents(a), contents(b))
			if !slices.Equal(got, want) {
				t.Fatalf("%s and %s: %d addresses; want %d", name, other, len(got), len(want))
			}
			if (len(got) == 0) != image.Same(a, b) {
				t.Fatalf("%s and %s: %d addresses", name, other, len(got))
			}
		}
	}
}

// wantBack tests that a text has an image.
func wantBack(t *testing.T, what, text string, m *image.Image) {
	t.Helper()
	got, fault := hexread.Read(text)
	if fault != (api.Fault{}) || got == nil || !image.Same(got, m) {
		t.Fatalf("%s: %v (nil: %v), %d differences", what, fault, got == nil, len(hexread.Diff(got, m)))
	}
}

// P5.5
func TestReadInvertsWrite(t *testing.T) {
	all := images(t)
	r := rand.New(rand.NewSource(55))
	for i := range 20 {
		all["random "+strconv.Itoa(i)] = random(r, 60, 1+i*i)
	}
	for name, m := range all {
		wantBack(t, name, hexwrite.Write(m), m)
		for _, size := range []int{1, 2, 15, 16, 17, 128, 254, 255} {
			s, _ := hexwrite.Sized(size, m)
			wantBack(t, fmt.Sprintf("%s: size %d", name, size), s, m)
			if normal, fault := hexread.Normal(s); normal != hexwrite.Write(m) || fault != (api.Fault{}) {
				t.Fatalf("%s: size %d: Normal returns %s, %v", name, size, short(normal), fault)
			}
		}
	}
	wantBack(t, "nil", hexwrite.Write(nil), image.New())
}

// P5.5
func TestReadInvertsAllSizes(t *testing.T) {
	m := of(t, run(3, bytesTo(9, 600)...), run(1000, 0), run(1002, bytesTo(1, 255)...), run(65000, bytesTo(7, 536)...))
	for size := 1; size <= 255; size++ {
		s, ok := hexwrite.Sized(size, m)
		if !ok {
			t.Fatalf("there is no text of the size %d", size)
		}
		name := fmt.Sprintf("size %d", size)
		wantBack(t, name, s, m)
		wantBack(t, name+" with small letters", strings.ToLower(s), m)
		wantBack(t, name+" with CR", strings.ReplaceAll(s, "\n", "\r\n"), m)
		wantBack(t, name+" without the last line feed", strings.TrimSuffix(s, "\n"), m)
	}
}

// P5.5: the lines in front of the End in another order, and among blank lines.
func TestReadAnyOrder(t *testing.T) {
	r := rand.New(rand.NewSource(56))
	for name, m := range images(t) {
		for _, size := range []int{1, 16, 255} {
			s, _ := hexwrite.Sized(size, m)
			lines := strings.SplitAfter(strings.TrimSuffix(s, end), "\n")
			slices.Reverse(lines)
			wantBack(t, name+" in reverse", strings.Join(lines, "")+end, m)
			r.Shuffle(len(lines), func(i, j int) { lines[i], lines[j] = lines[j], lines[i] })
			wantBack(t, name+" in disorder", strings.Join(lines, "\n \t\r\n")+end, m)
		}
	}
}

// Results share no memory with each other.
func TestResultsAreIndependent(t *testing.T) {
	s := text(rec(0, 5, 1, 2)) + end
	a, _ := hexread.Read(s)
	b, _ := hexread.Read(s)
	c, _, _ := hexread.Merge(s)
	d, _, _ := hexread.Merge(s, end)
	for i, m := range []*image.Image{a, b, c, d} {
		if m.Len() != 2 || m.Put(100, 1) != api.OK || m.Put(7, 9) != api.OK {
			t.Errorf("image %d: %v", i, m.Runs())
		}
	}
	l := hexread.Diff(a, nil)
	l[0] = 77
	if got := hexread.Diff(a, nil); !slices.Equal(got, []int{5, 6, 7, 100}) {
		t.Errorf("Diff returns %v after a change of its result", got)
	}
}

// Arguments stay as they are.
func TestArgumentsAreNotChanged(t *testing.T) {
	texts := []string{text(rec(0, 5, 1)) + end, end, "x"}
	hexread.Merge(texts...)
	hexread.Merge(texts[:2]...)
	if want := []string{text(rec(0, 5, 1)) + end, end, "x"}; !slices.Equal(texts, want) {
		t.Errorf("Merge changed its arguments to %q", texts)
	}
	a, b := of(t, run(5, 1, 2)), of(t, run(6, 3))
	hexread.Diff(a, b)
	if !image.Same(a, of(t, run(5, 1, 2))) || !image.Same(b, of(t, run(6, 3))) {
		t.Error("Diff changed its arguments")
	}
}

// The functions may be called concurrently.
func TestConcurrentCalls(t *testing.T) {
	var all sync.WaitGroup
	for i := range 8 {
		m := of(t, run(i*100, bytesTo(i, 50+i)...))
		s := hexwrite.Write(m)
		all.Go(func() {
			for range 50 {
				if got, fault := hexread.Read(s); !image.Same(got, m) || fault != (api.Fault{}) {
					t.Error("another image")
				}
				if got, _, fault := hexread.Merge(s, end); !image.Same(got, m) || fault != (api.Fault{}) {
					t.Error("another merged image")
				}
			}
		})
	}
	all.Wait()
}
