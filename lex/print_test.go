package lex_test

import (
	"math"
	"slices"
	"strings"
	"testing"

	"breadboard/api"
	"breadboard/lex"
	"breadboard/num"
)

// P16.2: words, as a whole.
func TestIsWord(t *testing.T) {
	for _, s := range []string{
		"a", "Z", "z", "A", "_", ".", "?", "@", "a0", "A9", "_0", ".9", "?5", "@1", "a_.?@b", "LD", "hl", "AF", "af", "AF'", "af'", "Af'", "aF'",
		"AFX", "XAF", "b101", "x0123456789", "____", "....", "MOD", strings.Repeat("a", 1025), strings.Repeat("a9", 100000),
	} {
		if !lex.IsWord(s) {
			t.Errorf("IsWord(%.20q) = false", s)
		}
	}
	for _, s := range []string{
		"", " ", " a", "a ", "\ta", "a\t", "a b", "a\n", "a;", ";a", ";", "0", "9a", "0a", "1", "0FH", "12", "$", "$a", "a$", "%1", "a%", "a:", ":a", "a,b", "a+b", "-a",
		"'", "'a'", "\"a\"", "a'", "B'", "HL'", "BC'", "AF''", "AF'b", "AF' ", "AF'0", "'AF'", " AF'", "AFX'", "XAF'", "_AF'", "AF0'", "0AF'", "AF\"", "AF`", "AF\u2019", "AFAF'", "AF'AF'", "A'F", "AE'", "AG'", "BF'", "@F'", "aF'a",
		"é", "aé", "éa", "\xff", "a\xff", "\x00", "a\x00", "a\xc0", "[", "a[", "a`", "a{", "a/", "a^", "a\\", "a!", "#", "<<", strings.Repeat("a", 1024) + " ",
	} {
		if lex.IsWord(s) {
			t.Errorf("IsWord(%.20q) = true", s)
		}
	}
}

// P16.2: single bytes, and bytes behind a letter, between and behind others.
func TestIsWordOfAllBytes(t *testing.T) {
	const letters = "ABCDEFGHIJKLMNOPQRSTUVWXYZabcdefghijklmnopqrstuvwxyz_.?@"
	for c := range 256 {
		s := string([]byte{byte(c)})
		letter := strings.Contains(letters, s)
		part := letter || strings.Contains("0123456789", s)
		for text, want := range map[string]bool{s: letter, s + "a": letter, s + "0": letter, "a" + s: part, "a" + s + "b": part, "AF" + s: part || s == "'", s + "AF": letter, s + "AF'": false} {
			if got := lex.IsWord(text); got != want {
				t.Errorf("IsWord(%q) = %v", text, got)
			}
		}
	}
}

// P16.2: strings with double marks around them.
func TestQuote(t *testing.T) {
	for s, want := range map[string]string{
		"": `""`, "a": `"a"`, " ": `" "`, "a b": `"a b"`, "'": `"'"`, "''": `"''"`, `"`: `""""`, `""`: `""""""`, `a"b'`: `"a""b'"`, `"a"`: `"""a"""`,
		";": `";"`, "\n": "\"\n\"", "\t\r": "\"\t\r\"", `\`: `"\"`, `\"`: `"\"""`, "é\xff\x00": "\"é\xff\x00\"", `a"`: `"a"""`, `"a`: `"""a"`,
	} {
		if got := lex.Quote(s); got != want {
			t.Errorf("Quote(%q) = %s; want %s", s, got, want)
		}
	}
	for c := range 256 {
		s := string([]byte{byte(c)})
		want := `"` + s + `"`
		if s == `"` {
			want = `""""`
		}
		if got := lex.Quote(s); got != want {
			t.Errorf("Quote(%q) = %q", s, got)
		}
		wantTokens(t, lex.Quote(s+"x"+s), str(0, s+"x"+s), end(len(lex.Quote(s+"x"+s))))
	}
	long := strings.Repeat(`"`, 100000)
	if got := lex.Quote(long); got != `"`+long+long+`"` {
		t.Error("Quote of many marks")
	}
}

// P16.2: a token is one of some signs.
func TestIs(t *testing.T) {
	for _, s := range allSigns {
		token := sign(3, s)
		for _, other := range allSigns {
			if lex.Is(token, other) != (s == other) {
				t.Errorf("Is(%s, %s)", s, other)
			}
		}
		if !lex.Is(token, allSigns...) || !lex.Is(token, s, "x") || !lex.Is(token, "x", s) || !lex.Is(token, "x", s, "y") || !lex.Is(token, s, s) {
			t.Errorf("Is(%s) of several signs = false", s)
		}
		if lex.Is(token) || lex.Is(token, "") || lex.Is(token, s+" ") || lex.Is(token, "x", " "+s, s+s) || lex.Is(token, []string{}...) || lex.Is(token, nil...) {
			t.Errorf("Is(%s) of none and others = true", s)
		}
		for _, kind := range []int{lex.End, lex.Word, lex.Number, lex.String, 5, -1, math.MaxInt, math.MinInt, lex.Sign + 256} {
			if lex.Is(lex.Token{Kind: kind, Text: s}, s) || lex.Is(lex.Token{Kind: kind, Text: s}, allSigns...) {
				t.Errorf("Is(%s) of the kind %d = true", s, kind)
			}
		}
	}
	if lex.Is(sign(0, "<<"), "<") || lex.Is(sign(0, "<<"), "<", "<") || lex.Is(word(0, "a"), "a") || lex.Is(number(0, 1), "1", "") || lex.Is(end(0), "") || lex.Is(end(0)) {
		t.Error("Is of other tokens = true")
	}
	// Signs made by hand are compared by their text as well.
	if !lex.Is(sign(0, "<"), "<") || !lex.Is(sign(0, ""), "") || !lex.Is(lex.Token{Kind: lex.Sign, Text: "+", N: 7, At: -1}, "+") {
		t.Error("Is of signs made by hand = false")
	}
	l, _ := lex.Tokens("a+'+'")
	if lex.Is(l[0], "+") || !lex.Is(l[1], "-", "+") || lex.Is(l[2], "+") || lex.Is(l[3], "+", "") {
		t.Errorf("Is of the tokens %v", l)
	}
}

// P16.2: signs that are given stay as they are.
func TestIsKeepsSigns(t *testing.T) {
	signs := []string{"-", "+", "(", ")"}
	if !lex.Is(sign(0, "+"), signs[:2]...) || lex.Is(sign(0, "("), signs[:2]...) {
		t.Error("Is of a part of a list")
	}
	if !slices.Equal(signs, []string{"-", "+", "(", ")"}) {
		t.Errorf("signs have changed: %q", signs)
	}
}

func wantPrint(t *testing.T, want string, l ...lex.Token) {
	t.Helper()
	if got := lex.Print(l...); got != want {
		t.Errorf("Print(%v) = %q; want %q", l, got, want)
	}
}

// P16.3: tokens of each kind, with one space between each two.
func TestPrint(t *testing.T) {
	wantPrint(t, "")
	wantPrint(t, "", []lex.Token{}...)
	wantPrint(t, "a", word(0, "a"))
	wantPrint(t, "AF'", word(5, "AF'"))
	wantPrint(t, "+", sign(9, "+"))
	wantPrint(t, "<<", sign(0, "<<"))
	wantPrint(t, `""`, str(0, ""))
	wantPrint(t, `"a""b'"`, str(0, `a"b'`))
	wantPrint(t, "", end(0))
	wantPrint(t, " ", end(0), end(0))
	wantPrint(t, "a ", word(0, "a"), end(1))
	wantPrint(t, " a", end(0), word(0, "a"))
	wantPrint(t, "a  b", word(0, "a"), end(0), word(0, "b"))
	wantPrint(t, "a b", word(0, "a"), word(0, "b"))
	wantPrint(t, "( IX + 0FH )", sign(0, "("), word(0, "IX"), sign(0, "+"), number(0, 15), sign(0, ")"))
	wantPrint(t, `a 0ABH """" << `, word(0, "a"), number(0, 171), str(0, `"`), sign(0, "<<"), end(0))
	wantPrint(t, "x : LD A , ( IX + 0FH ) ", word(9, "x"), sign(8, ":"), word(7, "LD"), word(6, "A"), sign(5, ","), sign(4, "("), word(3, "IX"), sign(2, "+"), number(1, 15), sign(0, ")"), end(-1))
}

// P16.3: numbers as num.Text has them, and fields of other kinds left out.
func TestPrintOfNumbersAndOtherFields(t *testing.T) {
	for n, want := range map[int]string{
		0: "0", 9: "9", 10: "0AH", 15: "0FH", 16: "10H", 255: "0FFH", 4096: "1000H", 65535: "0FFFFH",
		-1: "", 65536: "", 65537: "", math.MaxInt: "", math.MinInt: "", 1 << 32: "", -65536: "",
	} {
		wantPrint(t, want, number(0, n))
		wantPrint(t, "( "+want+" )", sign(0, "("), number(0, n), sign(0, ")"))
	}
	for n := -10; n < 65546; n++ {
		wantPrint(t, num.Text(n), number(n, n))
	}
	all := func(kind int) lex.Token { return lex.Token{Kind: kind, Text: `t"`, N: 18, At: 7} }
	for kind, want := range map[int]string{lex.End: "", lex.Word: `t"`, lex.Number: "12H", lex.String: `"t"""`, lex.Sign: `t"`, 5: "", -1: "", 256: "", 257: "", math.MaxInt: "", math.MinInt: ""} {
		wantPrint(t, want, all(kind))
		wantPrint(t, "a "+want+" b", word(0, "a"), all(kind), word(0, "b"))
	}
	// Texts are taken as they are, whether or not they have the form of a token.
	wantPrint(t, " x y  <> é\n", word(0, " x y"), word(0, ""), sign(0, "<>"), sign(0, "é\n"))
}

// P16.3: many tokens, of which a part of a list is given.
func TestPrintOfMany(t *testing.T) {
	l := slices.Repeat([]lex.Token{word(0, "a"), number(0, 10)}, 50000)
	if got := lex.Print(l...); got != strings.Repeat("a 0AH ", 49999)+"a 0AH" {
		t.Error("Print of many tokens")
	}
	kept := slices.Clone(l[:6])
	wantPrint(t, "a 0AH a", l[:3]...)
	if !slices.Equal(l[:6], kept) {
		t.Error("Print has changed what is given")
	}
}

func wantLines(t *testing.T, text string, want ...string) {
	t.Helper()
	if got := lex.Lines(text); !slices.Equal(got, want) {
		t.Errorf("Lines(%q) = %q; want %q", text, got, want)
	}
}

// P16.4: parts between line feeds, without an empty last one.
func TestLines(t *testing.T) {
	wantLines(t, "")
	wantLines(t, "a", "a")
	wantLines(t, "a\n", "a")
	wantLines(t, "\n", "")
	wantLines(t, "\n\n", "", "")
	wantLines(t, "\n\n\n", "", "", "")
	wantLines(t, "\na", "", "a")
	wantLines(t, "a\n\n", "a", "")
	wantLines(t, "a\n\nb", "a", "", "b")
	wantLines(t, "a\nb", "a", "b")
	wantLines(t, "a\nb\n", "a", "b")
	wantLines(t, " ", " ")
	wantLines(t, "a\n ", "a", " ")
	wantLines(t, " a \n\tb\t\n", " a ", "\tb\t")
	wantLines(t, "a\x00b\nc\x00", "a\x00b", "c\x00")
	wantLines(t, "a\vb\fc\u2028d\u0085e\n", "a\vb\fc\u2028d\u0085e")
	wantLines(t, "\"a\nb\"", "\"a", "b\"")
	wantLines(t, "; a\n; b", "; a", "; b")
	wantLines(t, "\xff\n\xc3\n\xa9", "\xff", "\xc3", "\xa9")
}

// P16.4: one byte 13 at the end of each part is left out, and no other one.
func TestLinesWithReturns(t *testing.T) {
	wantLines(t, "\r", "")
	wantLines(t, "\r\n", "")
	wantLines(t, "\r\r", "\r")
	wantLines(t, "\r\r\n", "\r")
	wantLines(t, "\n\r", "", "")
	wantLines(t, "\n\r\n", "", "")
	wantLines(t, "\r\n\r", "", "")
	wantLines(t, "\r\n\r\n", "", "")
	wantLines(t, "\r\na", "", "a")
	wantLines(t, "a\r\n", "a")
	wantLines(t, "a\r", "a")
	wantLines(t, "a\r\r", "a\r")
	wantLines(t, "a\r\r\n", "a\r")
	wantLines(t, "a\r\r\r\nb\r\r\r", "a\r\r", "b\r\r")
	wantLines(t, "a\rb", "a\rb")
	wantLines(t, "a\rb\r\nc", "a\rb", "c")
	wantLines(t, "\ra\r", "\ra")
	wantLines(t, "a\n\rb", "a", "\rb")
	wantLines(t, "a\r\n\r\nb\r\r", "a", "", "b\r")
	wantLines(t, "a\r\nb\nc\r\n", "a", "b", "c")
	wantLines(t, "a\r \n", "a\r ")
	wantLines(t, "a\nb\r", "a", "b")
}

// P16.4: many lines, and long ones.
func TestManyLines(t *testing.T) {
	long := strings.Repeat("x", 100000)
	wantLines(t, long+"\r\n"+long, long, long)
	if l := lex.Lines(strings.Repeat("\r\n", api.MaxLines+5)); len(l) != api.MaxLines+5 || slices.ContainsFunc(l, func(s string) bool { return s != "" }) {
		t.Errorf("%d lines", len(l))
	}
	if l := lex.Lines(strings.Repeat("a\n", 100000) + "b"); len(l) != 100001 || l[99999] != "a" || l[100000] != "b" {
		t.Errorf("%d lines", len(l))
	}
}
