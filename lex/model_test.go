package lex_test

import (
	"math/big"
	"math/rand"
	"regexp"
	"slices"
	"strings"
	"testing"

	"breadboard/api"
	"breadboard/lex"
)

// model reads tokens as the chapter puts it: of all forms, with regular
// expressions, the one that gives the longest token.
type model struct {
	word, number, str, sign, begins *regexp.Regexp
}

func newModel() model {
	longest := func(s string) *regexp.Regexp {
		r := regexp.MustCompile("^(?:" + s + ")")
		r.Longest()
		return r
	}
	return model{
		word:   longest(`[A-Za-z_.?@][A-Za-z_.?@0-9]*|[Aa][Ff]'`),
		number: longest(`[0-9%][A-Za-z_.?@0-9]*|\$[A-Za-z_.?@0-9]+`),
		str:    longest(`(?s:"(?:[^"]|"")*"|'(?:[^']|'')*')`),
		sign:   longest(`<<|>>|[,()+\-*/&|^~:=$]`),
		begins: longest(`[0-9%"']|\$[A-Za-z_.?@0-9]`),
	}
}

// value returns the number of a word, and false if it is none.
func value(s string) (int, bool) {
	s = strings.ToUpper(s)
	for _, f := range []struct {
		form string
		base int
	}{{`^([0-9]+)$`, 10}, {`^0X([0-9A-F]+)$`, 16}, {`^\$([0-9A-F]+)$`, 16}, {`^([0-9][0-9A-F]*)H$`, 16}, {`^([01]+)B$`, 2}, {`^%([01]+)$`, 2}} {
		if m := regexp.MustCompile(f.form).FindStringSubmatch(s); m != nil {
			n, ok := new(big.Int).SetString(m[1], f.base)
			return int(n.Int64()), ok && n.Cmp(big.NewInt(65535)) <= 0
		}
	}
	return 0, false
}

// token returns the token at the beginning of a text with its size, or the
// code that says why there is none.
func (m model) token(s string) (lex.Token, int, api.Code) {
	var best lex.Token
	size := 0
	if w := m.word.FindString(s); len(w) > size {
		best, size = word(0, w), len(w)
	}
	if w := m.number.FindString(s); len(w) > size {
		if n, ok := value(w); ok {
			best, size = number(0, n), len(w)
		}
	}
	if w := m.str.FindString(s); len(w) > size {
		mark := w[:1]
		best, size = str(0, strings.ReplaceAll(w[1:len(w)-1], mark+mark, mark)), len(w)
	}
	if w := m.sign.FindString(s); len(w) > size && !m.begins.MatchString(s) {
		best, size = sign(0, w), len(w)
	}
	if size > 0 {
		return best, size, api.OK
	}
	if m.begins.MatchString(s) {
		return lex.Token{}, 0, api.ErrSyntax
	}
	return lex.Token{}, 0, api.ErrChar
}

func (m model) tokens(line string) ([]lex.Token, api.Code) {
	if len(line) > 1024 {
		return nil, api.ErrLong
	}
	var l []lex.Token
	for at := 0; ; {
		for at < len(line) && (line[at] == ' ' || line[at] == '\t') {
			at++
		}
		if at == len(line) || line[at] == ';' {
			return append(l, end(at)), api.OK
		}
		t, size, e := m.token(line[at:])
		if e != api.OK {
			return nil, e
		}
		t.At = at
		l = append(l, t)
		at += size
	}
}

// wantModel checks the tokens of a line against the model, and returns them.
func wantModel(t *testing.T, m model, line string) []lex.Token {
	t.Helper()
	want, code := m.tokens(line)
	l, e := lex.Tokens(line)
	if e != code || !slices.Equal(l, want) {
		t.Fatalf("Tokens(%q) = %v, %d; want %v, %d", line, l, e, want, code)
	}
	return l
}

// wantSamePrinted checks P16.5 for tokens of a line.
func wantSamePrinted(t *testing.T, line string, l []lex.Token) {
	t.Helper()
	text := lex.Print(l...)
	if len(l) == 0 || len(text) > api.MaxLine {
		return
	}
	again, e := lex.Tokens(text)
	same := func(a, b lex.Token) bool { return a.Kind == b.Kind && a.Text == b.Text && a.N == b.N }
	if e != api.OK || !slices.EqualFunc(l, again, same) {
		t.Fatalf("%q, printed as %q: %v, %d; want %v", line, text, again, e, l)
	}
}

// P16.1, P16.5: all lines of few of the bytes that matter most.
func TestShortLines(t *testing.T) {
	t.Parallel()
	m := newModel()
	const bytes = "aFf1$%<'\";+ #"
	var visit func(line string, more int)
	visit = func(line string, more int) {
		wantSamePrinted(t, line, wantModel(t, m, line))
		if more == 0 {
			return
		}
		for i := range len(bytes) {
			visit(line+bytes[i:i+1], more-1)
		}
	}
	visit("", 4)
}

// P16.1, P16.5: all single bytes and pairs.
func TestAllPairs(t *testing.T) {
	t.Parallel()
	m := newModel()
	for a := range 256 {
		one := string([]byte{byte(a)})
		wantSamePrinted(t, one, wantModel(t, m, one))
		for b := range 256 {
			pair := one + string([]byte{byte(b)})
			wantSamePrinted(t, pair, wantModel(t, m, pair))
		}
	}
}

// pieces are parts of lines, most of them tokens.
var pieces = []string{
	"a", "LD", "AF", "af", "AF'", "_x.9", "?", "@1", "MOD", "b", "h", "x", "0", "9", "12", "0FH", "0x1F", "$", "$1f", "%101", "%", "101b", "65535", "65536", "12x", "$g",
	"'", "\"", "''", "\"\"", "'a'", "\"a;b\"", "'it''s'", "\"say \"\"x\"\"\"", "'\"'", "<<", ">>", "<", ">", ",", "(", ")", "+", "-", "*", "/", "&", "|", "^", "~", ":", "=",
	" ", "  ", "\t", ";", "#", "é", "\x00", "\xff", "\r", "\n",
}

// P16.1, P16.5: random lines of pieces with a fixed seed.
func TestRandomPieces(t *testing.T) {
	t.Parallel()
	m := newModel()
	random := rand.New(rand.NewSource(16))
	good := 0
	for range 60000 {
		line := ""
		for range random.Intn(9) {
			p := pieces[random.Intn(len(pieces))]
			// Most lines should have tokens, so most of what is wrong is left out.
			if _, e := m.tokens(p); e != api.OK && random.Intn(3) > 0 {
				p = " "
			}
			line += p
		}
		l := wantModel(t, m, line)
		wantSamePrinted(t, line, l)
		if len(l) > 0 {
			good++
		}
	}
	if good < 10000 {
		t.Errorf("only %d lines had tokens", good)
	}
}

// P16.1, P16.5: random bytes with a fixed seed, and long lines.
func TestRandomBytes(t *testing.T) {
	t.Parallel()
	m := newModel()
	random := rand.New(rand.NewSource(61))
	const common = "aAfFbhxX019$%'\"<>;,()+ \t"
	for i := range 30000 {
		b := make([]byte, random.Intn(12))
		for j := range b {
			b[j] = common[random.Intn(len(common))]
			if random.Intn(20) == 0 {
				b[j] = byte(random.Intn(256))
			}
		}
		line := string(b)
		if i%100 == 0 {
			line = strings.Repeat("x,12,'y' ", random.Intn(120)) + line
		}
		wantSamePrinted(t, line, wantModel(t, m, line))
	}
}

// P16.2: IsWord against the form of a word, for random strings with a fixed
// seed.
func TestRandomWords(t *testing.T) {
	t.Parallel()
	form := regexp.MustCompile(`^(?:[A-Za-z_.?@][A-Za-z_.?@0-9]*|[Aa][Ff]')$`)
	random := rand.New(rand.NewSource(26))
	const common = "aAfF09'_.?@ $"
	for range 100000 {
		b := make([]byte, random.Intn(5))
		for j := range b {
			b[j] = common[random.Intn(len(common))]
		}
		if s := string(b); lex.IsWord(s) != form.MatchString(s) {
			t.Fatalf("IsWord(%q) = %v", s, !form.MatchString(s))
		}
	}
}

// P16.5: strings with all bytes, in tokens made by hand, are the same again
// when they are printed, and so are all numbers and signs.
func TestPrintedTokens(t *testing.T) {
	t.Parallel()
	l := []lex.Token{word(0, "a"), word(0, "AF"), str(0, "b"), word(0, "AF'"), str(0, "'"), sign(0, "$"), number(0, 1), sign(0, "$"), word(0, "a"), number(0, 0xAB), word(0, "x"), str(0, ""), str(0, ""), str(0, `"`)}
	wantSamePrinted(t, "", append(slices.Clone(l), end(0)))
	var inside []byte
	for c := range 256 {
		inside = append(inside, byte(c), byte(c))
	}
	wantSamePrinted(t, "", []lex.Token{str(0, string(inside)), end(0)})
	for n := range 65536 {
		wantSamePrinted(t, "", []lex.Token{sign(0, "$"), number(0, n), number(0, n), end(0)})
	}
	for _, a := range allSigns {
		for _, b := range allSigns {
			wantSamePrinted(t, "", []lex.Token{sign(0, a), sign(0, b), word(0, "a"), sign(0, b), number(0, 1), sign(0, a), end(0)})
		}
	}
}
