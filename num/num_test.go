package num_test

import (
	"bytes"
	"fmt"
	"math"
	"strconv"
	"strings"
	"testing"

	"breadboard/num"
)

func wantNumber(t *testing.T, word string, want int) {
	t.Helper()
	if n, ok := num.Parse(word); n != want || !ok {
		t.Errorf("Parse(%q) = %d, %v; want %d, true", word, n, ok, want)
	}
}

func wantNoNumber(t *testing.T, word string) {
	t.Helper()
	if n, ok := num.Parse(word); n != 0 || ok {
		t.Errorf("Parse(%q) = %d, %v; want 0, false", word, n, ok)
	}
}

// stopIfFailed ends a test of very many inputs at the first that fails, so
// that its report stays short.
func stopIfFailed(t *testing.T) {
	t.Helper()
	if t.Failed() {
		t.FailNow()
	}
}

// P1.1: every number has its words in all six forms.
func TestParseAllNumbersInAllForms(t *testing.T) {
	for n := range 65536 {
		decimal := strconv.Itoa(n)
		binary := strconv.FormatInt(int64(n), 2)
		small := strconv.FormatInt(int64(n), 16)
		large := strings.ToUpper(small)
		words := []string{
			decimal, "000" + decimal,
			"0x" + small, "0X" + small, "0x" + large, "0X" + large, "0x00" + small,
			"$" + small, "$" + large, "$00" + small,
			"0" + small + "h", "0" + large + "H", "0" + small + "H", "0" + large + "h", "000" + small + "h",
			binary + "b", binary + "B", "00" + binary + "b",
			"%" + binary, "%00" + binary,
		}
		for _, w := range words {
			wantNumber(t, w, n)
		}
		stopIfFailed(t)
	}
}

// P1.1: words that could be mistaken for a word of another form.
func TestParseFormsNextToEachOther(t *testing.T) {
	for word, want := range map[string]int{
		"1010b": 10, "1010": 1010, "1010h": 0x1010, "0x1010": 0x1010, "$1010": 0x1010, "%1010": 10,
		"0b": 0, "1B": 1, "0bh": 11, "1bh": 27, "0b1h": 0xb1, "0x0b": 11, "0x1b": 27, "$1b": 27, "$b": 11, "0xb": 11,
		"9FH": 159, "9h": 9, "0h": 0, "0FFFFh": 65535, "$FfFf": 65535, "0xaBcD": 0xabcd, "0": 0, "00": 0,
	} {
		wantNumber(t, word, want)
	}
	for _, word := range []string{
		"0b1", "0b0", "0x1h", "$1h", "%1b", "%1h", "0x%1", "0x$1", "$0x1", "%0x1", "$$1", "%%1", "1hh", "1bb", "0x0x1", "1hb",
		"&1", "#1", "1d", "1o", "10k", "x10", "0y1",
	} {
		wantNoNumber(t, word)
	}
}

// P1.1: each form needs a digit, and digits of its own base only.
func TestParseRefusesWrongDigits(t *testing.T) {
	for _, word := range []string{
		"", "h", "H", "b", "B", "$", "%", "0x", "0X", "x", "0xh", "xh",
		"a", "F", "1a", "a1", "12f", "0xg", "0x1g", "$g", "$1G", "0gh", "1Gh", "2b", "12b", "102b", "%2", "%12", "%a", "ab",
		"FFh", "ah", "Bh", "a0H", "fffh",
		"-1", "+1", "-0", "$-1", "$+1", "0x-1", "%-1", "-1h", "-1b", "0-1h",
		" ", " 1", "1 ", "1 2", "\t1", "1\n", "1\r", "$ 1", "% 1", "0x 1", "1 h", "1 b",
		"1_0", "0x1_0", "1.0", "1e3", "1,0", "1'0", "1\x00", "\x001", "é", "1é", "\xff", "1\xff", "١", "1h\u0300", "ſ",
		"/", ":", "1/", "1:", "$@", "$`", "$/", "$:", "0x@", "0`h", "%/", "@1h", "/1h", ":1h",
	} {
		wantNoNumber(t, word)
	}
}

// P1.1: the greatest number is 65535, however many digits a word has.
func TestParseLimit(t *testing.T) {
	zeros := strings.Repeat("0", 5000)
	for _, word := range []string{
		"65535", "0xFFFF", "$ffff", "0ffffh", "1111111111111111b", "%1111111111111111",
		zeros + "65535", "0x" + zeros + "FFFF", "$" + zeros + "FFFF", zeros + "FFFFh",
		zeros + "1111111111111111b", "%" + zeros + "1111111111111111",
	} {
		wantNumber(t, word, 65535)
	}
	for _, word := range []string{
		"65536", "0x10000", "$10000", "10000h", "10000000000000000b", "%10000000000000000",
		zeros + "65536", "0x" + zeros + "10000", "99999999999999999999",
		"4294967296", "4294967301", "18446744073709551616", "18446744073709551621",
		"0x100000005", "0x10000000000000005", "$10000000000000005", "10000000000000005h",
		"1" + strings.Repeat("0", 64) + "b", "%1" + strings.Repeat("0", 64),
		"1" + zeros, "0x1" + zeros, "$1" + zeros, "1" + zeros + "h", "1" + zeros + "b", "%1" + zeros,
	} {
		wantNoNumber(t, word)
	}
}

// numbersOf returns the number of a word in each form of the chapter in which
// it has one, without the code of package num.
func numbersOf(word string) []int {
	const decimal, hex, binary = "0123456789", "0123456789ABCDEFabcdef", "01"
	var l []int
	try := func(matches bool, digits, allowed string, base int) {
		if !matches || digits == "" || strings.Trim(digits, allowed) != "" {
			return
		}
		if n, err := strconv.ParseUint(digits, base, 16); err == nil {
			l = append(l, int(n))
		}
	}
	n := len(word)
	first, last := word[:min(n, 1)], word[max(n-1, 0):]
	try(true, word, decimal, 10)
	try(n > 2 && (word[:2] == "0x" || word[:2] == "0X"), word[min(n, 2):], hex, 16)
	try(first == "$", word[min(n, 1):], hex, 16)
	try((last == "h" || last == "H") && strings.Contains(decimal, first), word[:max(n-1, 0)], hex, 16)
	try(last == "b" || last == "B", word[:max(n-1, 0)], binary, 2)
	try(first == "%", word[min(n, 1):], binary, 2)
	return l
}

// P1.1: all short words of the characters that matter agree with the chapter,
// and none denotes two numbers.
func TestParseShortWords(t *testing.T) {
	const alphabet = "019abBfFgGhHxX$%- "
	var visit func(word string, more int)
	visit = func(word string, more int) {
		l := numbersOf(word)
		switch len(l) {
		case 0:
			wantNoNumber(t, word)
		case 1:
			wantNumber(t, word, l[0])
		default:
			t.Errorf("%q denotes %v", word, l)
		}
		stopIfFailed(t)
		if more == 0 {
			return
		}
		for i := range len(alphabet) {
			visit(word+alphabet[i:i+1], more-1)
		}
	}
	visit("", 4)
}

// P1.2
func TestTextExamples(t *testing.T) {
	for n, want := range map[int]string{
		0: "0", 1: "1", 9: "9", 10: "0AH", 15: "0FH", 16: "10H", 99: "63H", 159: "9FH", 160: "0A0H", 171: "0ABH", 255: "0FFH",
		256: "100H", 2559: "9FFH", 2560: "0A00H", 4095: "0FFFH", 4096: "1000H", 40959: "9FFFH", 40960: "0A000H", 65535: "0FFFFH",
	} {
		if got := num.Text(n); got != want {
			t.Errorf("Text(%d) = %q; want %q", n, got, want)
		}
	}
}

// P1.2
func TestTextOfAllNumbers(t *testing.T) {
	for n := range 65536 {
		want := fmt.Sprintf("%XH", n)
		if want[0] >= 'A' {
			want = "0" + want
		}
		if n < 10 {
			want = strconv.Itoa(n)
		}
		if got := num.Text(n); got != want {
			t.Fatalf("Text(%d) = %q; want %q", n, got, want)
		}
	}
}

// P1.2
func TestTextOfOtherNumbers(t *testing.T) {
	for _, n := range []int{-1, -9, -10, -65535, -65536, 65536, 65545, 131071, math.MaxInt32, math.MinInt32, math.MaxInt, math.MinInt} {
		if got := num.Text(n); got != "" {
			t.Errorf("Text(%d) = %q; want nothing", n, got)
		}
	}
}

// P1.3
func TestHexExamples(t *testing.T) {
	for _, c := range []struct {
		n, digits int
		want      string
	}{
		{0, 0, ""}, {5, 0, ""}, {-1, 0, ""}, {0, 1, "0"}, {0, 8, "00000000"}, {15, 1, "F"}, {16, 1, "0"}, {10, 2, "0A"},
		{255, 2, "FF"}, {256, 2, "00"}, {257, 2, "01"}, {256, 3, "100"}, {0x1234, 4, "1234"}, {0x1234, 3, "234"}, {0x1234, 6, "001234"},
		{0xabcdef, 6, "ABCDEF"}, {0xabcdef, 5, "BCDEF"}, {1 << 30, 8, "40000000"}, {math.MaxInt32, 8, "7FFFFFFF"},
		{-1, 1, "F"}, {-1, 2, "FF"}, {-1, 8, "FFFFFFFF"}, {-2, 4, "FFFE"}, {-15, 1, "1"}, {-16, 2, "F0"}, {-17, 2, "EF"},
		{-128, 2, "80"}, {-129, 2, "7F"}, {-256, 4, "FF00"}, {-257, 4, "FEFF"}, {math.MinInt32, 8, "80000000"},
		{math.MaxInt, 7, "FFFFFFF"}, {math.MinInt, 7, "0000000"}, {math.MaxInt - 5, 7, "FFFFFFA"}, {math.MinInt + 10, 2, "0A"},
	} {
		if got := num.Hex(c.n, c.digits); got != c.want {
			t.Errorf("Hex(%d, %d) = %q; want %q", c.n, c.digits, got, c.want)
		}
	}
}

// P1.3: the last digits of a number are those of the number modulo a power of 16.
func TestHexOfManyNumbers(t *testing.T) {
	for n := -70000; n <= 70000; n += 7 {
		for digits := range 9 {
			want := fmt.Sprintf("%08X", uint32(n))[8-digits:]
			if got := num.Hex(n, digits); got != want {
				t.Fatalf("Hex(%d, %d) = %q; want %q", n, digits, got, want)
			}
		}
	}
}

// P1.3 does not say what other numbers of digits give, but no call may panic.
func TestHexOfOtherNumbersOfDigits(t *testing.T) {
	for _, digits := range []int{-1, math.MinInt, 9, 100, math.MaxInt} {
		for _, n := range []int{0, -1, 5, math.MinInt, math.MaxInt} {
			if got := num.Hex(n, digits); got != "" {
				t.Errorf("Hex(%d, %d) = %q; want nothing", n, digits, got)
			}
		}
	}
}

// P1.4
func TestBytes(t *testing.T) {
	for s, want := range map[string][]byte{
		"": {}, "00": {0}, "ff": {255}, "FF": {255}, "0A": {10}, "a0": {160}, "aB": {0xab}, "Ba": {0xba},
		"00ff": {0, 255}, "0102030405": {1, 2, 3, 4, 5}, "9AfAF0": {0x9a, 0xfa, 0xf0}, "FFFFFFFF": {255, 255, 255, 255},
	} {
		if b, ok := num.Bytes(s); !bytes.Equal(b, want) || !ok {
			t.Errorf("Bytes(%q) = %v, %v; want %v, true", s, b, ok, want)
		}
	}
	for _, s := range []string{
		"0", "f", "000", "0102f", "0g", "g0", "G0", "00g0", "000g", "0000 0", "00 1", " 1", "1 ", "0x", "0X01", "01h0", "+1", "-1", "$1", "1_",
		"/0", "0:", "@0", "0`", "é", "0é1", "\x000", "0\xff", "00\xff\xff", "0102030q",
	} {
		if b, ok := num.Bytes(s); len(b) != 0 || ok {
			t.Errorf("Bytes(%q) = %v, %v; want nothing and false", s, b, ok)
		}
	}
}

// P1.4: among all pairs of bytes, exactly the pairs of digits are accepted.
func TestBytesOfAllPairs(t *testing.T) {
	const digits = "0123456789abcdefABCDEF"
	for hi := range 256 {
		for lo := range 256 {
			s := string([]byte{byte(hi), byte(lo)})
			var want []byte
			good := strings.IndexByte(digits, byte(hi)) >= 0 && strings.IndexByte(digits, byte(lo)) >= 0
			if good {
				n, err := strconv.ParseUint(s, 16, 8)
				if err != nil {
					t.Fatal(err)
				}
				want = []byte{byte(n)}
			}
			if b, ok := num.Bytes(s); ok != good || !bytes.Equal(b, want) {
				t.Fatalf("Bytes(%q) = %v, %v; want %v, %v", s, b, ok, want, good)
			}
		}
	}
}

// P1.5
func TestSigned(t *testing.T) {
	for b := range 256 {
		want := b
		if b > 127 {
			want = b - 256
		}
		if got := num.Signed(byte(b)); got != want {
			t.Errorf("Signed(%d) = %d; want %d", b, got, want)
		}
	}
}

// P1.5
func TestLow(t *testing.T) {
	if b := num.Low(); len(b) != 0 {
		t.Errorf("Low() = %v", b)
	}
	l := []int{0, 1, 127, 128, 255, 256, 257, 65535, 65536, -1, -128, -255, -256, -257, math.MaxInt, math.MinInt, math.MinInt + 5}
	want := []byte{0, 1, 127, 128, 255, 0, 1, 255, 0, 255, 128, 1, 0, 255, 255, 0, 5}
	before := fmt.Sprint(l)
	if b := num.Low(l...); !bytes.Equal(b, want) {
		t.Errorf("Low = %v; want %v", b, want)
	}
	if fmt.Sprint(l) != before {
		t.Errorf("Low changed its arguments to %v", l)
	}
	for n := -1000; n <= 1000; n++ {
		if b := num.Low(n); len(b) != 1 || int(b[0]) != ((n%256)+256)%256 {
			t.Errorf("Low(%d) = %v", n, b)
		}
	}
}

// P1.5
func TestFits(t *testing.T) {
	for _, c := range []struct {
		lo, hi int
		l      []int
		want   bool
	}{
		{0, 5, nil, true}, {5, 0, nil, true}, {0, 5, []int{0}, true}, {0, 5, []int{5}, true}, {0, 5, []int{0, 3, 5}, true},
		{0, 5, []int{-1}, false}, {0, 5, []int{6}, false}, {0, 5, []int{6, 3}, false}, {0, 5, []int{3, 6}, false},
		{0, 5, []int{3, -1, 3}, false}, {3, 3, []int{3, 3}, true}, {3, 3, []int{2}, false}, {3, 3, []int{4}, false},
		{5, 0, []int{3}, false}, {5, 0, []int{0}, false}, {5, 0, []int{5}, false}, {-128, 127, []int{-128, 127}, true},
		{-128, 127, []int{-129}, false}, {-128, 127, []int{128}, false},
		{math.MinInt, math.MaxInt, []int{math.MinInt, 0, math.MaxInt}, true},
		{math.MinInt + 1, math.MaxInt, []int{math.MinInt}, false}, {math.MinInt, math.MaxInt - 1, []int{math.MaxInt}, false},
		{0, math.MaxInt, []int{math.MinInt}, false}, {math.MinInt, 0, []int{math.MaxInt}, false},
	} {
		if got := num.Fits(c.lo, c.hi, c.l...); got != c.want {
			t.Errorf("Fits(%d, %d, %v) = %v; want %v", c.lo, c.hi, c.l, got, c.want)
		}
	}
}

// P1.6: letters outside of a to z, and bytes that are no characters, stay.
func TestUpper(t *testing.T) {
	for s, want := range map[string]string{
		"": "", "abc": "ABC", "XYZ": "XYZ", "aZ09": "AZ09", "af'": "AF'", "{`@[": "{`@[", "éß": "éß", "aéz": "AéZ", "ſıK": "ſıK",
		"a\xffb\x00c\xc3": "A\xffB\x00C\xc3", "a b\tc\n": "A B\tC\n",
	} {
		if got := num.Upper(s); got != want {
			t.Errorf("Upper(%q) = %q; want %q", s, got, want)
		}
	}
	for c := range 256 {
		want := byte(c)
		if strings.IndexByte("abcdefghijklmnopqrstuvwxyz", want) >= 0 {
			want -= 32
		}
		if got := num.Upper(string([]byte{byte(c)})); got != string([]byte{want}) {
			t.Errorf("Upper of the byte %d = %q", c, got)
		}
	}
}

// P1.7
func TestParseInvertsText(t *testing.T) {
	for n := range 65536 {
		wantNumber(t, num.Text(n), n)
		stopIfFailed(t)
	}
}

// P1.7
func TestBytesInvertsHex(t *testing.T) {
	for n := range 256 {
		if b, ok := num.Bytes(num.Hex(n, 2)); !ok || len(b) != 1 || int(b[0]) != n {
			t.Errorf("Bytes(Hex(%d, 2)) = %v, %v", n, b, ok)
		}
	}
	if b, ok := num.Bytes(num.Hex(-1, 2) + num.Hex(256, 2)); !ok || !bytes.Equal(b, []byte{255, 0}) {
		t.Errorf("Bytes of the digits of -1 and 256 = %v, %v", b, ok)
	}
}
