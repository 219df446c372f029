package lex_test

import (
	"slices"
	"strings"
	"sync"
	"testing"

	"breadboard/api"
	"breadboard/lex"
)

func word(at int, s string) lex.Token { return lex.Token{Kind: lex.Word, Text: s, At: at} }

func number(at, n int) lex.Token { return lex.Token{Kind: lex.Number, N: n, At: at} }

func str(at int, s string) lex.Token { return lex.Token{Kind: lex.String, Text: s, At: at} }

func sign(at int, s string) lex.Token { return lex.Token{Kind: lex.Sign, Text: s, At: at} }

func end(at int) lex.Token { return lex.Token{Kind: lex.End, At: at} }

// wantTokens checks that a line has exactly these tokens, in all their fields.
func wantTokens(t *testing.T, line string, want ...lex.Token) {
	t.Helper()
	l, e := lex.Tokens(line)
	if e != api.OK || !slices.Equal(l, want) {
		t.Errorf("Tokens(%q) = %v, %d; want %v, 0", line, l, e, want)
	}
}

func wantCode(t *testing.T, line string, want api.Code) {
	t.Helper()
	if l, e := lex.Tokens(line); e != want || len(l) != 0 {
		t.Errorf("Tokens(%q) = %v, %d; want nothing, %d", line, l, e, want)
	}
}

// stopIfFailed ends a test of very many inputs at the first that fails, so
// that its report stays short.
func stopIfFailed(t *testing.T) {
	t.Helper()
	if t.Failed() {
		t.FailNow()
	}
}

// The example of the chapter.
func TestExamples(t *testing.T) {
	wantTokens(t, "x: LD A,(IX+0FH) ; c",
		word(0, "x"), sign(1, ":"), word(3, "LD"), word(6, "A"), sign(7, ","), sign(8, "("),
		word(9, "IX"), sign(11, "+"), number(12, 15), sign(15, ")"), end(17))
}

// P16.1: a line without tokens has End, at its end or at its semicolon.
func TestEnds(t *testing.T) {
	wantTokens(t, "", end(0))
	wantTokens(t, " ", end(1))
	wantTokens(t, "\t", end(1))
	wantTokens(t, " \t \t\t  ", end(7))
	wantTokens(t, ";", end(0))
	wantTokens(t, ";;;", end(0))
	wantTokens(t, "; x: LD A,1", end(0))
	wantTokens(t, " \t; x", end(2))
	wantTokens(t, ";'", end(0))
	wantTokens(t, ";#\x00\xff12x \"", end(0))
	wantTokens(t, ";\r\n", end(0))
	wantTokens(t, "a", word(0, "a"), end(1))
	wantTokens(t, "a  ", word(0, "a"), end(3))
	wantTokens(t, "a;b", word(0, "a"), end(1))
	wantTokens(t, "a \t;b;c", word(0, "a"), end(3))
	wantTokens(t, "12;3", number(0, 12), end(2))
	wantTokens(t, "$;3", sign(0, "$"), end(1))
	wantTokens(t, "<<;<", sign(0, "<<"), end(2))
	wantTokens(t, "'a';'", str(0, "a"), end(3))
	wantTokens(t, "AF';'", word(0, "AF'"), end(3))
	wantTokens(t, "'a;b';c", str(0, "a;b"), end(5))
	wantTokens(t, "\";\";\"", str(0, ";"), end(3))
}

// P16.1: spaces and tabs are left out, and no other bytes.
func TestBlanks(t *testing.T) {
	wantTokens(t, " a\tb \t c", word(1, "a"), word(3, "b"), word(7, "c"), end(8))
	wantTokens(t, "\t\t(\t)\t", sign(2, "("), sign(4, ")"), end(6))
	for _, blank := range []string{"\n", "\r", "\v", "\f", "\x00", "\x7f", "\u00a0", "\u2003", "\x85", "\xa0"} {
		wantCode(t, blank, api.ErrChar)
		wantCode(t, "a"+blank+"b", api.ErrChar)
		wantCode(t, "a"+blank, api.ErrChar)
	}
}

// P16.1: words of all letters and digits.
func TestWordTokens(t *testing.T) {
	const letters = "ABCDEFGHIJKLMNOPQRSTUVWXYZabcdefghijklmnopqrstuvwxyz_.?@"
	for _, c := range letters {
		s := string(c)
		wantTokens(t, s, word(0, s), end(1))
		wantTokens(t, " "+s+"0"+s+"9 ", word(1, s+"0"+s+"9"), end(6))
	}
	wantTokens(t, letters+"0123456789"+letters, word(0, letters+"0123456789"+letters), end(122))
	wantTokens(t, "x0123456789", word(0, "x0123456789"), end(11))
	wantTokens(t, ".a.b _1 ? @@", word(0, ".a.b"), word(5, "_1"), word(8, "?"), word(10, "@@"), end(12))
	wantTokens(t, "ld LD Ld", word(0, "ld"), word(3, "LD"), word(6, "Ld"), end(8))
	wantTokens(t, "a$b", word(0, "a"), number(1, 11), end(3))
	wantTokens(t, "a%1", word(0, "a"), number(1, 1), end(3))
	wantTokens(t, "a:b", word(0, "a"), sign(1, ":"), word(2, "b"), end(3))
	wantTokens(t, "a'b'", word(0, "a"), str(1, "b"), end(4))
	wantTokens(t, "a\"b\"c", word(0, "a"), str(1, "b"), word(4, "c"), end(5))
	for _, s := range []string{"é", "aé", "a\xe9", "a\u0130", "\u212a", "\xffa", "a-é"} {
		wantCode(t, s, api.ErrChar)
	}
}

// P16.1: AF directly followed by a single quotation mark is one word with it.
func TestQuotedAF(t *testing.T) {
	for _, s := range []string{"AF", "af", "Af", "aF"} {
		wantTokens(t, s, word(0, s), end(2))
		wantTokens(t, s+"'", word(0, s+"'"), end(3))
		wantTokens(t, " "+s+"';x", word(1, s+"'"), end(4))
		wantTokens(t, s+"'b'c'", word(0, s+"'"), word(3, "b"), str(4, "c"), end(7))
		wantTokens(t, s+"'9", word(0, s+"'"), number(3, 9), end(4))
		wantTokens(t, s+"'"+s+"'", word(0, s+"'"), word(3, s+"'"), end(6))
		wantTokens(t, s+"'','", word(0, s+"'"), str(3, ","), end(6))
		wantTokens(t, s+" 'b'", word(0, s), str(3, "b"), end(6))
		wantTokens(t, s+"\"b\"", word(0, s), str(2, "b"), end(5))
		wantTokens(t, s+"\"'\"", word(0, s), str(2, "'"), end(5))
		wantTokens(t, s+"X'b'", word(0, s+"X"), str(3, "b"), end(6))
		wantTokens(t, s+"0'b'", word(0, s+"0"), str(3, "b"), end(6))
		wantTokens(t, "X"+s+"'b'", word(0, "X"+s), str(3, "b"), end(6))
		wantTokens(t, "_"+s+"'b'", word(0, "_"+s), str(3, "b"), end(6))
		wantTokens(t, "$"+s+"'b'", number(0, 0xAF), str(3, "b"), end(6))
		wantTokens(t, "("+s+"')", sign(0, "("), word(1, s+"'"), sign(4, ")"), end(5))
		wantCode(t, s+"''", api.ErrSyntax)
		wantCode(t, s+" '", api.ErrSyntax)
		wantCode(t, "X"+s+"'", api.ErrSyntax)
		wantCode(t, s+"X'", api.ErrSyntax)
	}
	wantTokens(t, "EX AF,AF'", word(0, "EX"), word(3, "AF"), sign(5, ","), word(6, "AF'"), end(9))
}

// P16.1: no other word has a quotation mark.
func TestOtherQuotedWords(t *testing.T) {
	for _, s := range []string{"A", "F", "BC", "HL", "AE", "BF", "FA", "AFF", "AAF", "A_F", "af_", "?", "IX"} {
		wantTokens(t, s+"'b'", word(0, s), str(len(s), "b"), end(len(s)+3))
		wantTokens(t, s+"''", word(0, s), str(len(s), ""), end(len(s)+2))
		wantCode(t, s+"'", api.ErrSyntax)
	}
}

// P16.1: numbers of each form, with the letters and digits that follow.
func TestNumbers(t *testing.T) {
	for s, n := range map[string]int{
		"0": 0, "9": 9, "10": 10, "65535": 65535, "00065535": 65535, "0x0": 0, "0x1f": 31, "0X1F": 31, "0xFFFF": 65535,
		"$0": 0, "$f": 15, "$F": 15, "$FFFF": 65535, "$12": 18, "$a9": 169, "0h": 0, "9H": 9, "0FH": 15, "0ffffh": 65535, "12H": 18,
		"0b": 0, "1B": 1, "101b": 5, "1111111111111111b": 65535, "%0": 0, "%101": 5, "%1111111111111111": 65535,
		"0bh": 11, "0x0b": 11, "$1b": 27, "1bh": 27,
	} {
		size := len(s)
		wantTokens(t, s, number(0, n), end(size))
		wantTokens(t, " "+s+"\t;", number(1, n), end(size+2))
		wantTokens(t, "("+s+")", sign(0, "("), number(1, n), sign(1+size, ")"), end(2+size))
		wantTokens(t, s+"$", number(0, n), sign(size, "$"), end(size+1))
		wantTokens(t, s+"$1", number(0, n), number(size, 1), end(size+2))
		wantTokens(t, s+"%1", number(0, n), number(size, 1), end(size+2))
		wantTokens(t, s+"'b'", number(0, n), str(size, "b"), end(size+3))
	}
	wantTokens(t, "1 2\t3", number(0, 1), number(2, 2), number(4, 3), end(5))
	wantTokens(t, "%1%0", number(0, 1), number(2, 0), end(4))
	wantTokens(t, "5-3", number(0, 5), sign(1, "-"), number(2, 3), end(3))
}

// P16.1: what begins as a number has all letters and digits that follow, and
// is not read in part if it has not the form of a number.
func TestNoNumbers(t *testing.T) {
	for _, s := range []string{
		"12x", "1a", "0g", "0x", "0xg", "0x1g", "0x1h", "1_", "1.5", "1?", "1@", "9a", "2b", "102b", "1hh", "0FH0", "0b1", "1e5",
		"$g", "$_", "$1h", "$1g", "$x", "$?", "$1.", "$@", "%2", "%x", "%1b", "%12", "%_", "%1_", "%",
		"65536", "99999", "0x10000", "$10000", "10000h", "10000000000000000b", "%10000000000000000",
		"99999999999999999999999999", "0xFFFFFFFFFFFFFFFFFFFF", "18446744073709551616", "18446744073709551617",
	} {
		for _, line := range []string{s, " " + s, s + " ", s + ";", "a," + s, s + ",a", s + " #", s + "#", s + "'", "(" + s + ")", s + "$", s + "%1"} {
			wantCode(t, line, api.ErrSyntax)
		}
	}
	for _, line := range []string{"% 1", "5 % 2", "%%1", "%$1", "%'1'", "%;1", "%\t1", "%(1)"} {
		wantCode(t, line, api.ErrSyntax)
	}
}

// P16.1: $ is a sign, unless a letter or digit follows it directly.
func TestDollars(t *testing.T) {
	wantTokens(t, "$", sign(0, "$"), end(1))
	wantTokens(t, "$ 1", sign(0, "$"), number(2, 1), end(3))
	wantTokens(t, "$ a", sign(0, "$"), word(2, "a"), end(3))
	wantTokens(t, "$\tb", sign(0, "$"), word(2, "b"), end(3))
	wantTokens(t, "$+1", sign(0, "$"), sign(1, "+"), number(2, 1), end(3))
	wantTokens(t, "$1+$", number(0, 1), sign(2, "+"), sign(3, "$"), end(4))
	wantTokens(t, "$$", sign(0, "$"), sign(1, "$"), end(2))
	wantTokens(t, "$$1$", sign(0, "$"), number(1, 1), sign(3, "$"), end(4))
	wantTokens(t, "$%1", sign(0, "$"), number(1, 1), end(3))
	wantTokens(t, "$'1'", sign(0, "$"), str(1, "1"), end(4))
	wantTokens(t, "$\"1\"", sign(0, "$"), str(1, "1"), end(4))
	wantTokens(t, "($)", sign(0, "("), sign(1, "$"), sign(2, ")"), end(3))
	wantTokens(t, "$;1", sign(0, "$"), end(1))
	wantCode(t, "$z", api.ErrSyntax)
	wantCode(t, "$#", api.ErrChar)
	wantCode(t, "$\xc3\xa9", api.ErrChar)
}

// swapMarks returns a text with quotation marks instead of M (the mark of the
// string) and O (the other one).
func swapMarks(s, marks string) string {
	return strings.NewReplacer("M", marks[:1], "O", marks[1:]).Replace(s)
}

// P16.1: strings with both marks.
func TestStrings(t *testing.T) {
	for _, s := range []struct{ inside, text string }{
		{``, ``}, {`a`, `a`}, {` `, ` `}, {`a b`, `a b`}, {"\t", "\t"}, {`;`, `;`}, {`a;b;`, `a;b;`}, {"\n\r", "\n\r"}, {`\n`, `\n`},
		{"MM", "M"}, {"MMMM", "MM"}, {"aMM", "aM"}, {"MMa", "Ma"}, {"aMMbMMc", "aMbMc"}, {"MM;MM", "M;M"}, {"MM MM", "M M"},
		{"O", "O"}, {"OO", "OO"}, {"aOb", "aOb"}, {"OMMO", "OMO"}, {"MMOMM", "MOM"}, {"é\xff\x00", "é\xff\x00"},
		{"#<>[]{}!", "#<>[]{}!"}, {"AF", "AF"}, {"12x", "12x"}, {`\`, `\`}, {`\MM`, `\M`},
	} {
		for _, marks := range []string{`"'`, `'"`} {
			form, text := swapMarks("M"+s.inside+"M", marks), swapMarks(s.text, marks)
			n := len(form)
			wantTokens(t, form, str(0, text), end(n))
			wantTokens(t, " "+form+";", str(1, text), end(1+n))
			wantTokens(t, "a,"+form+",$", word(0, "a"), sign(1, ","), str(2, text), sign(2+n, ","), sign(3+n, "$"), end(4+n))
			wantTokens(t, form+"b", str(0, text), word(n, "b"), end(1+n))
			wantTokens(t, form+"1", str(0, text), number(n, 1), end(1+n))
			wantTokens(t, form+swapMarks("OO", marks), str(0, text), str(n, ""), end(2+n))
			wantTokens(t, form+" "+form, str(0, text), str(1+n, text), end(1+2*n))
		}
	}
	wantTokens(t, `DEFB "a""b",'c''',''`, word(0, "DEFB"), str(5, `a"b`), sign(11, ","), str(12, "c'"), sign(17, ","), str(18, ""), end(20))
}

// P16.1: every byte stands for itself in a string, but for its mark.
func TestBytesOfStrings(t *testing.T) {
	for c := range 256 {
		for _, mark := range []string{`"`, `'`} {
			s := string([]byte{byte(c)})
			if s == mark {
				continue
			}
			wantTokens(t, mark+s+mark, str(0, s), end(3))
			wantTokens(t, "x "+mark+"a"+s+s+"b"+mark+" y", word(0, "x"), str(2, "a"+s+s+"b"), word(9, "y"), end(10))
		}
	}
}

// P16.1: strings that do not end.
func TestOpenStrings(t *testing.T) {
	for _, s := range []string{"M", "Ma", "M ", "M;", "MO", "Ma;b", "MMM", "MaMM", "MMMMM", "MaMMb", "MMMaMM", "MaMMb;", "MaMM ;MM;MM", "MaM M", "MaMbM", "MMaM", "OaOM", "MaO", "MaMMO"} {
		for _, marks := range []string{`"'`, `'"`} {
			wantCode(t, swapMarks(s, marks), api.ErrSyntax)
			wantCode(t, swapMarks("1,"+s, marks), api.ErrSyntax)
		}
	}
}

// allSigns has every sign.
var allSigns = []string{"<<", ">>", ",", "(", ")", "+", "-", "*", "/", "&", "|", "^", "~", ":", "=", "$"}

// P16.1: every sign, alone, directly beside other ones, and beside other
// tokens.
func TestSigns(t *testing.T) {
	for _, a := range allSigns {
		n := len(a)
		wantTokens(t, a, sign(0, a), end(n))
		wantTokens(t, "\t"+a+" ;"+a, sign(1, a), end(n+2))
		wantTokens(t, "x"+a+"(", word(0, "x"), sign(1, a), sign(1+n, "("), end(2+n))
		wantTokens(t, "9"+a, number(0, 9), sign(1, a), end(1+n))
		wantTokens(t, "''"+a+"''", str(0, ""), sign(2, a), str(2+n, ""), end(4+n))
		if a != "$" {
			wantTokens(t, a+"1", sign(0, a), number(n, 1), end(1+n))
			wantTokens(t, a+"b", sign(0, a), word(n, "b"), end(1+n))
		}
		for _, b := range allSigns {
			wantTokens(t, a+b, sign(0, a), sign(n, b), end(n+len(b)))
			for _, c := range allSigns {
				wantTokens(t, a+b+c, sign(0, a), sign(n, b), sign(n+len(b), c), end(n+len(b)+len(c)))
			}
		}
		stopIfFailed(t)
	}
	wantTokens(t, "1<<2>>3", number(0, 1), sign(1, "<<"), number(3, 2), sign(4, ">>"), number(6, 3), end(7))
	wantTokens(t, "<<<<>>>>", sign(0, "<<"), sign(2, "<<"), sign(4, ">>"), sign(6, ">>"), end(8))
	wantTokens(t, "a==b", word(0, "a"), sign(1, "="), sign(2, "="), word(3, "b"), end(4))
}

// P16.1: signs of which only a part is there, and bytes that begin no token.
func TestNoTokens(t *testing.T) {
	for _, s := range []string{"<", ">", "< <", "> >", "<>", "><", "<<<", ">>>", "<=", "=>", "<\t<", "<;<", "a<b", "a <b", "1>2", "<'<'"} {
		wantCode(t, s, api.ErrChar)
	}
	begins := ",()+-*/&|^~:=$%;\"' \tABCDEFGHIJKLMNOPQRSTUVWXYZabcdefghijklmnopqrstuvwxyz_.?@0123456789"
	for c := range 256 {
		s := string([]byte{byte(c)})
		if strings.Contains(begins, s) {
			continue
		}
		for _, line := range []string{s, " " + s, "a " + s, "a" + s + "a", s + " 1", s + "'", s + ";", "+" + s, "x: LD A,5" + s, s + " 12x"} {
			wantCode(t, line, api.ErrChar)
		}
	}
}

// P16.1: the code is that of the first place that is wrong.
func TestFirstWrongPlace(t *testing.T) {
	for line, want := range map[string]api.Code{
		"12x #": api.ErrSyntax, "# 12x": api.ErrChar, "'a #": api.ErrSyntax, "# 'a": api.ErrChar, "#'": api.ErrChar, "12x#": api.ErrSyntax,
		"'#": api.ErrSyntax, "% #": api.ErrSyntax, "#%": api.ErrChar, "< %": api.ErrChar, "% <": api.ErrSyntax, "a <b 12x": api.ErrChar,
		"a 'b' # 'c": api.ErrChar, "a 'b 'c #'": api.ErrChar, "a 'b' 'c #": api.ErrSyntax, "$g#": api.ErrSyntax, "#$g": api.ErrChar,
		"65536;#": api.ErrSyntax, "#;65536": api.ErrChar, "$ # $g": api.ErrChar, "$ $g #": api.ErrSyntax,
	} {
		wantCode(t, line, want)
	}
	wantTokens(t, "a;# 12x '", word(0, "a"), end(1))
}

// P16.1: a line has at most 1024 bytes, whatever they are.
func TestLongLines(t *testing.T) {
	for _, c := range []string{"a", " ", "\t", ";", "(", "0"} {
		for _, size := range []int{api.MaxLine - 1, api.MaxLine} {
			if l, e := lex.Tokens(strings.Repeat(c, size)); e != api.OK || l[len(l)-1].Kind != lex.End {
				t.Errorf("%d bytes %q: code %d", size, c, e)
			}
		}
		for _, size := range []int{api.MaxLine + 1, api.MaxLine + 2, 2 * api.MaxLine, 1 << 16, 1<<16 + api.MaxLine, 1 << 20} {
			wantCode(t, strings.Repeat(c, size), api.ErrLong)
		}
	}
	long := strings.Repeat("a", api.MaxLine)
	wantTokens(t, long, word(0, long), end(api.MaxLine))
	wantTokens(t, strings.Repeat(" ", api.MaxLine), end(api.MaxLine))
	wantTokens(t, strings.Repeat(" ", api.MaxLine-1)+"a", word(api.MaxLine-1, "a"), end(api.MaxLine))
	wantTokens(t, strings.Repeat(" ", api.MaxLine-1)+";", end(api.MaxLine-1))
	half := strings.Repeat("'", api.MaxLine/2-1)
	wantTokens(t, "'"+half+half+"'", str(0, half), end(api.MaxLine))
	wantTokens(t, strings.Repeat("0", api.MaxLine-5)+"65535", number(0, 65535), end(api.MaxLine))
	if l, e := lex.Tokens(strings.Repeat("$", api.MaxLine)); e != api.OK || len(l) != api.MaxLine+1 {
		t.Errorf("%d tokens, code %d", len(l), e)
	}
}

// P16.1: bytes are counted, not characters, those of remarks as well, and a
// line that is too long comes before all that is wrong in it.
func TestLongRemarks(t *testing.T) {
	wantTokens(t, "'"+strings.Repeat("é", 511)+"'", str(0, strings.Repeat("é", 511)), end(1024))
	wantCode(t, "'"+strings.Repeat("é", 512)+"'", api.ErrLong)
	wantTokens(t, "a ;"+strings.Repeat("é", 510)+"x", word(0, "a"), end(2))
	wantCode(t, "a ;"+strings.Repeat("é", 511), api.ErrLong)
	wantCode(t, "#"+strings.Repeat(" ", 1024), api.ErrLong)
	wantCode(t, "#"+strings.Repeat(" ", 1023), api.ErrChar)
	wantCode(t, "'"+strings.Repeat(" ", 1024), api.ErrLong)
	wantCode(t, "'"+strings.Repeat(" ", 1023), api.ErrSyntax)
	wantCode(t, "12x"+strings.Repeat(" ", 1022), api.ErrLong)
	wantCode(t, "12x"+strings.Repeat(" ", 1021), api.ErrSyntax)
}

// Every result is new memory, and what is given stays as it is.
func TestNewMemory(t *testing.T) {
	line := "x: LD A,'a' ; c"
	first, _ := lex.Tokens(line)
	kept := slices.Clone(first)
	second, _ := lex.Tokens(line)
	clear(second[:cap(second)])
	if !slices.Equal(first, kept) {
		t.Error("two lists of tokens share memory")
	}
	text := "a\nb\r\nc"
	lines := lex.Lines(text)
	clear(lines[:cap(lines)])
	if got := lex.Lines(text); !slices.Equal(got, []string{"a", "b", "c"}) {
		t.Errorf("Lines again: %q", got)
	}
	if line != "x: LD A,'a' ; c" || text != "a\nb\r\nc" {
		t.Error("an argument has changed")
	}
}

// Functions may be called concurrently.
func TestConcurrentCalls(t *testing.T) {
	var g sync.WaitGroup
	for range 8 {
		g.Go(func() {
			for range 200 {
				l, e := lex.Tokens("a: EX AF,AF' ; x")
				if e != api.OK || lex.Print(l...) != "a : EX AF , AF' " || !lex.IsWord("af'") || len(lex.Lines("a\nb")) != 2 {
					t.Error("a concurrent call has another result")
				}
			}
		})
	}
	g.Wait()
}
