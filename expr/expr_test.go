package expr_test

import (
	"math"
	"reflect"
	"slices"
	"strings"
	"sync"
	"testing"

	"breadboard/api"
	"breadboard/expr"
	"breadboard/lex"
	"breadboard/operand"
)

const (
	least = -1 << 31
	most  = 1<<31 - 1
)

// allOps are the binary operators by their levels.
var allOps = [][]string{1: {"|"}, 2: {"^"}, 3: {"&"}, 4: {"<<", ">>"}, 5: {"+", "-"}, 6: {"*", "/", "MOD"}}

var allUnary = []string{"-", "+", "~"}

// ops returns all binary operators, in ascending order of their levels.
func ops() []string { return slices.Concat(allOps...) }

func number(n int) *expr.Node { return &expr.Node{Kind: expr.Num, N: n} }

func symbol(name string) *expr.Node { return &expr.Node{Kind: expr.Sym, Name: name} }

func here() *expr.Node { return &expr.Node{Kind: expr.Here} }

func unary(op string, a *expr.Node) *expr.Node {
	return &expr.Node{Kind: expr.Unary, Name: op, A: a}
}

func binary(a *expr.Node, op string, b *expr.Node) *expr.Node {
	return &expr.Node{Kind: expr.Binary, Name: op, A: a, B: b}
}

var x, y, w = symbol("x"), symbol("y"), symbol("w")

func word(s string) lex.Token { return lex.Token{Kind: lex.Word, Text: s} }

func num(n int) lex.Token { return lex.Token{Kind: lex.Number, N: n} }

func str(s string) lex.Token { return lex.Token{Kind: lex.String, Text: s} }

func sign(s string) lex.Token { return lex.Token{Kind: lex.Sign, Text: s} }

// tokensOf returns the tokens of a line without its End.
func tokensOf(t *testing.T, line string) []lex.Token {
	t.Helper()
	l, e := lex.Tokens(line)
	if e != api.OK {
		t.Fatalf("%q has no tokens: %d", line, e)
	}
	return l[:len(l)-1]
}

// parsed returns the expression of a line.
func parsed(t *testing.T, line string) *expr.Node {
	t.Helper()
	e, code := expr.Parse(tokensOf(t, line)...)
	if e == nil || code != api.OK {
		t.Fatalf("Parse(%s) = %v, %d", line, e, code)
	}
	return e
}

// wantTree checks that tokens have exactly this expression, in all fields.
func wantTree(t *testing.T, want *expr.Node, l ...lex.Token) {
	t.Helper()
	e, code := expr.Parse(l...)
	if code != api.OK || !reflect.DeepEqual(e, want) {
		t.Errorf("Parse(%v) = %s, %d; want %s, 0", l, expr.Text(e), code, expr.Text(want))
	}
}

// wantParse checks that a line has exactly this expression, in all fields.
func wantParse(t *testing.T, line string, want *expr.Node) {
	t.Helper()
	wantTree(t, want, tokensOf(t, line)...)
}

// wantNone checks that tokens have no expression.
func wantNone(t *testing.T, want api.Code, l ...lex.Token) {
	t.Helper()
	if e, code := expr.Parse(l...); e != nil || code != want {
		t.Errorf("Parse(%v) = %s, %d; want nil, %d", l, expr.Text(e), code, want)
	}
}

// wantCode checks that a line has no expression.
func wantCode(t *testing.T, want api.Code, lines ...string) {
	t.Helper()
	for _, line := range lines {
		wantNone(t, want, tokensOf(t, line)...)
	}
}

// The examples of the chapter.
func TestExamples(t *testing.T) {
	wantEval(t, "2 + 3 * 4 MOD 5", 4)
	wantParse(t, "2 + 3 * 4 MOD 5", binary(number(2), "+", binary(binary(number(3), "*", number(4)), "MOD", number(5))))
	wantText(t, "((1)) - (2 - x)", "1 - (2 - x)")
	wantParse(t, "((1)) - (2 - x)", binary(number(1), "-", binary(number(2), "-", x)))
}

// P17.1: no tokens, and one token alone.
func TestSingleTokens(t *testing.T) {
	wantNone(t, api.ErrSyntax)
	wantNone(t, api.ErrSyntax, []lex.Token{}...)
	wantParse(t, "0", number(0))
	wantParse(t, "0FFFFH", number(65535))
	wantParse(t, "x", x)
	wantParse(t, "$", here())
	wantParse(t, "'a'", number(97))
	wantParse(t, `"a"`, number(97))
	wantParse(t, "$1", number(1))
	wantParse(t, "%1", number(1))
	wantCode(t, api.ErrSyntax, "+", "-", "*", "/", "&", "|", "^", "~", "<<", ">>", "(", ")", ",", ":", "=", "MOD", "''", "'ab'", "()", ")(")
	wantCode(t, api.ErrReserved, "A", "hl", "AF'")
}

// P17.1: numbers, also such that no line has.
func TestNumbers(t *testing.T) {
	for _, n := range []int{0, 1, 9, 10, 255, 256, 32767, 32768, 65535, 65536, -1, most, most + 1, least, least - 1, math.MaxInt, math.MinInt} {
		wantTree(t, number(n), num(n))
		wantTree(t, unary("-", number(n)), sign("-"), num(n))
		// Only N and the kind matter.
		wantTree(t, number(n), lex.Token{Kind: lex.Number, Text: "+", N: n, At: 7})
	}
}

// P17.1: a string with one byte is a number, and no other string is.
func TestStrings(t *testing.T) {
	for c := range 256 {
		s := string([]byte{byte(c)})
		wantTree(t, number(c), str(s))
		wantTree(t, binary(number(c), "+", number(c)), str(s), sign("+"), str(s))
		wantTree(t, unary("~", number(c)), sign("~"), str(s))
		wantTree(t, number(c), sign("("), str(s), sign(")"))
		wantNone(t, api.ErrSyntax, str(s+s))
		wantNone(t, api.ErrSyntax, str("a"+s))
		wantNone(t, api.ErrSyntax, num(1), sign("+"), str(s+"a"))
	}
	for _, s := range []string{"", "ab", "abc", "é", "\u20ac", "MOD", "<<", strings.Repeat("a", 257), strings.Repeat("\x00", 65537)} {
		wantNone(t, api.ErrSyntax, str(s))
		wantNone(t, api.ErrSyntax, sign("-"), str(s))
		wantNone(t, api.ErrSyntax, num(1), sign("*"), str(s))
		wantNone(t, api.ErrSyntax, str(s), sign("*"), num(1))
		wantNone(t, api.ErrSyntax, sign("("), str(s), sign(")"))
	}
	wantTree(t, number('x'), lex.Token{Kind: lex.String, Text: "x", N: 5, At: 9})
	// A string is no sign, whatever its byte is.
	wantNone(t, api.ErrSyntax, num(1), str("+"), num(2))
	wantNone(t, api.ErrSyntax, str("("), num(2), str(")"))
	wantNone(t, api.ErrSyntax, str("-"), num(2))
	wantTree(t, number('$'), str("$"))
}

// P17.1: words are symbols in the letters that they have.
func TestWords(t *testing.T) {
	for _, s := range []string{"x", "X", "loop", "Loop", "_", ".", "?", "@", "_a.9", "MO", "OD", "MODE", "mode", "XMOD", "MOD_", "MOD1", ".MOD", "MOD.", "MODMOD", "OR", "AND", "NOT", "SHL", "LD", "nop", "equ", "AFX", "HLL", "XA", "A1", "NZZ", "IXX", "AF''"} {
		wantTree(t, symbol(s), word(s))
		wantTree(t, binary(symbol(s), "-", symbol(s)), word(s), sign("-"), word(s))
		wantTree(t, symbol(s), lex.Token{Kind: lex.Word, Text: s, N: 12, At: 34})
	}
	// Words that no line has are symbols as well.
	for _, s := range []string{"", " ", "1", "+", "(", "$", " MOD", "MOD ", "MOD\x00", "mo\u0501", "é", "\xff"} {
		wantTree(t, symbol(s), word(s))
		wantTree(t, unary("+", symbol(s)), sign("+"), word(s))
		wantNone(t, api.ErrSyntax, num(1), word(s), num(2))
		wantNone(t, api.ErrSyntax, word(s), num(2))
	}
}

// P17.1: MOD in letters of any case is the operator, and no symbol.
func TestMod(t *testing.T) {
	for _, s := range []string{"MOD", "mod", "Mod", "mOd", "moD", "MOd", "MoD", "mOD"} {
		wantTree(t, binary(x, "MOD", number(2)), word("x"), word(s), num(2))
		wantTree(t, binary(binary(x, "MOD", y), "MOD", w), word("x"), word(s), word("y"), word("mod"), word("w"))
		wantTree(t, binary(x, "MOD", unary("-", y)), word("x"), word(s), sign("-"), word("y"))
		wantNone(t, api.ErrSyntax, word(s))
		wantNone(t, api.ErrSyntax, word(s), word(s))
		wantNone(t, api.ErrSyntax, word(s), word(s), word(s))
		wantNone(t, api.ErrSyntax, word("x"), word(s))
		wantNone(t, api.ErrSyntax, word(s), word("x"))
		wantNone(t, api.ErrSyntax, sign("-"), word(s))
		wantNone(t, api.ErrSyntax, sign("("), word(s), sign(")"))
		wantNone(t, api.ErrSyntax, word("x"), word(s), word(s), word("x"))
		wantNone(t, api.ErrSyntax, word("x"), sign("+"), word(s), word("x"))
		wantNone(t, api.ErrSyntax, word("x"), word(s), sign("*"), word("x"))
		// Only a word is this operator.
		wantNone(t, api.ErrSyntax, word("x"), sign(s), num(2))
		wantNone(t, api.ErrSyntax, word("x"), str(s), num(2))
		wantNone(t, api.ErrSyntax, word("x"), lex.Token{Kind: 5, Text: s}, num(2))
	}
}

// P17.1: signs made by hand that are no operators, and operators that are no
// signs.
func TestSignsMadeByHand(t *testing.T) {
	for _, s := range []string{"", " ", "<", ">", "<<<", "**", "+-", "||", "%", "x", "1", "MOD", "mod", "$$", "()", " +", "+ ", "!", ",", ":", "=", "é", "\x00"} {
		wantNone(t, api.ErrSyntax, sign(s))
		wantNone(t, api.ErrSyntax, sign(s), num(1))
		wantNone(t, api.ErrSyntax, num(1), sign(s))
		wantNone(t, api.ErrSyntax, num(1), sign(s), num(1))
		wantNone(t, api.ErrSyntax, sign("("), num(1), sign(s))
		wantNone(t, api.ErrSyntax, sign("-"), sign(s), num(1))
	}
	for _, kind := range []int{lex.End, lex.Word, lex.Number, lex.String, 5, 6, -1, 260, math.MaxInt, math.MinInt} {
		for _, s := range slices.Concat(ops(), allUnary, []string{"(", ")"}) {
			if kind == lex.Word && s == "MOD" {
				continue
			}
			wantNone(t, api.ErrSyntax, num(1), lex.Token{Kind: kind, Text: s, N: 1}, num(2))
		}
		for _, s := range []string{"$", "x", "1"} {
			token := lex.Token{Kind: kind, Text: s, N: 1}
			if e, code := expr.Parse(token); (kind < lex.Word || kind > lex.String) != (e == nil && code == api.ErrSyntax) {
				t.Errorf("Parse(%v) = %s, %d", token, expr.Text(e), code)
			}
		}
	}
}

// P17.1: an End belongs to no expression.
func TestEnds(t *testing.T) {
	end := lex.Token{Kind: lex.End}
	for _, e := range []lex.Token{end, {Kind: lex.End, Text: "x", N: 1, At: 5}, {Kind: lex.End, Text: "+"}, {Kind: lex.End, Text: ")"}} {
		wantNone(t, api.ErrSyntax, e)
		wantNone(t, api.ErrSyntax, e, e)
		for _, line := range []string{"1", "x+1", "-x", "(x)", "-(x+1)*2 MOD $", "A", "''"} {
			l := tokensOf(t, line)
			for at := range len(l) + 1 {
				wantNone(t, api.ErrSyntax, slices.Insert(slices.Clone(l), at, e)...)
			}
		}
	}
	l, _ := lex.Tokens("x + 1")
	wantNone(t, api.ErrSyntax, l...)
	wantTree(t, binary(x, "+", number(1)), l[:3]...)
}

// P17.1: each unary operator, also in front of each other and of brackets.
func TestUnary(t *testing.T) {
	for _, op := range allUnary {
		wantParse(t, op+"1", unary(op, number(1)))
		wantParse(t, op+"x", unary(op, x))
		wantParse(t, op+" $", unary(op, here()))
		wantParse(t, op+"'a'", unary(op, number(97)))
		wantParse(t, op+"(x)", unary(op, x))
		wantParse(t, "("+op+"x)", unary(op, x))
		wantParse(t, "("+op+"(x))", unary(op, x))
		wantCode(t, api.ErrSyntax, op, op+op, op+"()", op+"(", op+")", "("+op+")", "x"+op, "1 2"+op, op+"x y", op+"*x", op+"MOD x", op+",", op+"''")
		for _, other := range allUnary {
			wantParse(t, op+other+"x", unary(op, unary(other, x)))
			wantParse(t, op+"("+other+"x)", unary(op, unary(other, x)))
			wantParse(t, op+" "+other+op+"x", unary(op, unary(other, unary(op, x))))
		}
		for _, between := range ops() {
			// A unary operator has only the part right behind it.
			wantParse(t, op+"x "+between+" y", binary(unary(op, x), between, y))
			wantParse(t, "x "+between+" "+op+"y", binary(x, between, unary(op, y)))
			wantParse(t, op+"(x "+between+" y)", unary(op, binary(x, between, y)))
			wantParse(t, op+"(x) "+between+" y", binary(unary(op, x), between, y))
			wantParse(t, op+"x "+between+" "+op+"y", binary(unary(op, x), between, unary(op, y)))
			wantParse(t, "x "+between+" "+op+op+"y "+between+" w", binary(binary(x, between, unary(op, unary(op, y))), between, w))
			wantParse(t, op+op+"(x "+between+" y)", unary(op, unary(op, binary(x, between, y))))
		}
	}
	wantCode(t, api.ErrSyntax, "x ~ y", "x ~", "x~1", "1 ~ 2", "(x) ~ y", "x + y ~ w")
	wantParse(t, "x - -y", binary(x, "-", unary("-", y)))
	wantParse(t, "x--y", binary(x, "-", unary("-", y)))
	wantParse(t, "x+-+~y", binary(x, "+", unary("-", unary("+", unary("~", y)))))
}

// P17.1: each binary operator, and what may be on its sides.
func TestBinary(t *testing.T) {
	for _, op := range ops() {
		wantParse(t, "x "+op+" y", binary(x, op, y))
		wantParse(t, "1 "+op+" 2", binary(number(1), op, number(2)))
		wantParse(t, "$ "+op+" $", binary(here(), op, here()))
		wantParse(t, "'a'"+op+" 'b'", binary(number(97), op, number(98)))
		wantParse(t, "(x)"+op+"(y)", binary(x, op, y))
		wantParse(t, "((x "+op+" y))", binary(x, op, y))
		wantCode(t, api.ErrSyntax, op, "x "+op, "("+op+")", "(x "+op+") y", "x ("+op+" y)", "x "+op+" ()", "() "+op+" x", "x "+op+" (", "x "+op+" )", "x "+op+" y w", "x y "+op+" w", "x "+op+" y "+op, "x "+op+", y")
		if !slices.Contains(allUnary, op) {
			wantCode(t, api.ErrSyntax, op+" x", "x "+op+" "+op+" y", "("+op+" x)", "-"+op+" x", "x + "+op+" y")
		}
	}
}

// P17.1: two operators of each two levels beside each other, with brackets on
// either side and without.
func TestTwoOperators(t *testing.T) {
	for low, lower := range allOps {
		for high, higher := range allOps {
			for _, a := range lower {
				for _, b := range higher {
					left := binary(binary(x, a, y), b, w)
					right := binary(x, a, binary(y, b, w))
					want := left
					if high > low {
						want = right
					}
					wantParse(t, "x "+a+" y "+b+" w", want)
					wantParse(t, "(x "+a+" y) "+b+" w", left)
					wantParse(t, "x "+a+" (y "+b+" w)", right)
					wantParse(t, "(x "+a+" y "+b+" w)", want)
				}
			}
		}
	}
}

// P17.1: more than two operators.
func TestManyOperators(t *testing.T) {
	wantParse(t, "x|x^x&x<<x+x*x", binary(x, "|", binary(x, "^", binary(x, "&", binary(x, "<<", binary(x, "+", binary(x, "*", x)))))))
	wantParse(t, "x*x+x<<x&x^x|x", binary(binary(binary(binary(binary(binary(x, "*", x), "+", x), "<<", x), "&", x), "^", x), "|", x))
	wantParse(t, "x+y*w-x", binary(binary(x, "+", binary(y, "*", w)), "-", x))
	wantParse(t, "x*y+w*x", binary(binary(x, "*", y), "+", binary(w, "*", x)))
	wantParse(t, "x-y-w-1", binary(binary(binary(x, "-", y), "-", w), "-", number(1)))
	wantParse(t, "x/y*w mod 1", binary(binary(binary(x, "/", y), "*", w), "MOD", number(1)))
	wantParse(t, "x<<y>>w<<1", binary(binary(binary(x, "<<", y), ">>", w), "<<", number(1)))
	wantParse(t, "x|y&w|1", binary(binary(x, "|", binary(y, "&", w)), "|", number(1)))
	wantParse(t, "x*(y+w)*1", binary(binary(x, "*", binary(y, "+", w)), "*", number(1)))
	wantParse(t, "-x*-(y-w)+~$", binary(binary(unary("-", x), "*", unary("-", binary(y, "-", w))), "+", unary("~", here())))
	wantParse(t, "(x-(y-(w-1)))", binary(x, "-", binary(y, "-", binary(w, "-", number(1)))))
	wantParse(t, "$+2", binary(here(), "+", number(2)))
	wantParse(t, "$ff+$", binary(number(255), "+", here()))
	wantParse(t, "'('*')'", binary(number('('), "*", number(')')))
}

// P17.1: brackets around anything do not change it, and have to fit.
func TestBrackets(t *testing.T) {
	for _, line := range []string{"1", "x", "$", "'a'", "-x", "~-x", "x+y", "x*y+w", "-(x|y)", "x MOD (y-w)"} {
		want := parsed(t, line)
		for _, n := range []int{1, 2, 3, 10, 100} {
			wantParse(t, strings.Repeat("(", n)+line+strings.Repeat(")", n), want)
		}
		wantCode(t, api.ErrSyntax, "("+line, line+")", "(("+line+")", "("+line+"))", ")"+line+"(", "("+line+"(", ")"+line+")", "()"+line, line+"()", "("+line+")("+line+")", line+"("+line+")", "(("+line+")", "("+line+"()")
	}
	wantCode(t, api.ErrSyntax, "()", "(())", "((()))", "((", "))", ")(", "()()", "(,)", "(x,y)", "(x)y", "x(y)", "(x)(y)", "(x))+y", "((x)+y", "x+(y", "x+y)", "(x+)y", "x(+y)")
	wantParse(t, "((x)+((y)))*(w)", binary(binary(x, "+", y), "*", w))
	wantParse(t, "(((x)+(y)))", binary(x, "+", y))
	wantParse(t, "-((x))", unary("-", x))
	wantParse(t, "(-(-(x)))", unary("-", unary("-", x)))
}

// P17.1: tokens that are left over, and tokens that are missing.
func TestLeftOverAndMissing(t *testing.T) {
	starts := []string{"1", "x", "$", "'a'", "-1", "x+1", "(x)", "x MOD 2"}
	for _, a := range starts {
		for _, b := range []string{"1", "x", "$", "'a'", "''", "(x)", ",", ":", "=", ")", "~x", "A"} {
			wantCode(t, api.ErrSyntax, a+" "+b)
		}
		wantCode(t, api.ErrSyntax, a+"+", a+"-", a+"~", a+" MOD", a+"<<", a+"(", a+",1", a+"+*1", a+"* *1", a+"<<>>1", a+" MOD MOD 1", a+"|")
	}
}

// P17.1: symbols that are names of operands, in letters of any case, and only
// where there is an expression besides.
func TestReserved(t *testing.T) {
	names := operand.Names()
	if len(names) < 20 {
		t.Fatal("names of operands:", names)
	}
	for _, upper := range names {
		for _, s := range []string{upper, strings.ToLower(upper), upper[:1] + strings.ToLower(upper[1:])} {
			name := word(s)
			wantNone(t, api.ErrReserved, name)
			wantNone(t, api.ErrReserved, sign("("), name, sign(")"))
			wantNone(t, api.ErrReserved, sign("-"), name)
			wantNone(t, api.ErrReserved, name, sign("+"), num(1))
			wantNone(t, api.ErrReserved, num(1), sign("+"), name)
			wantNone(t, api.ErrReserved, name, sign("+"), name)
			wantNone(t, api.ErrReserved, word("x"), sign("*"), sign("("), word("y"), word("mod"), sign("~"), name, sign(")"), sign("-"), word("w"))
			// Mistakes of syntax come first, wherever they are.
			wantNone(t, api.ErrSyntax, name, name)
			wantNone(t, api.ErrSyntax, name, sign("+"))
			wantNone(t, api.ErrSyntax, sign("*"), name)
			wantNone(t, api.ErrSyntax, sign("("), name)
			wantNone(t, api.ErrSyntax, name, sign(")"))
			wantNone(t, api.ErrSyntax, name, sign("+"), num(1), str("ab"))
			wantNone(t, api.ErrSyntax, name, sign(","), name)
			wantNone(t, api.ErrSyntax, sign("("), name, sign(")"), num(1))
			// Other kinds of tokens are no names.
			wantNone(t, api.ErrSyntax, sign(s))
			if len(s) == 1 {
				wantTree(t, number(int(s[0])), str(s))
			}
		}
	}
	wantCode(t, api.ErrReserved, "1+hl", "ix+1", "AF'-1", "x+y+w+C", "m*(p)", "$+i")
	wantCode(t, api.ErrSyntax, "A+", "hl 1", "(ix+1", "(c),1")
}

// P17.1: long expressions and deep ones.
func TestLongAndDeep(t *testing.T) {
	const n = 1 << 16
	want := x
	for range n {
		want = unary("-", want)
	}
	wantSame(t, want, slices.Concat(slices.Repeat([]lex.Token{sign("-")}, n), []lex.Token{word("x")}))
	wantSame(t, x, slices.Concat(slices.Repeat([]lex.Token{sign("(")}, n), []lex.Token{word("x")}, slices.Repeat([]lex.Token{sign(")")}, n)))
	left, right := x, x
	for range n {
		left, right = binary(left, "-", x), binary(x, "-", right)
	}
	wantSame(t, left, slices.Concat([]lex.Token{word("x")}, slices.Repeat([]lex.Token{sign("-"), word("x")}, n)))
	wantSame(t, right, slices.Concat(slices.Repeat([]lex.Token{word("x"), sign("-"), sign("(")}, n), []lex.Token{word("x")}, slices.Repeat([]lex.Token{sign(")")}, n)))
	wantSame(t, left, slices.Concat(slices.Repeat([]lex.Token{sign("(")}, n), []lex.Token{word("x")}, slices.Repeat([]lex.Token{sign("-"), word("x"), sign(")")}, n)))
	for _, l := range [][]lex.Token{
		slices.Repeat([]lex.Token{sign("(")}, n),
		slices.Repeat([]lex.Token{sign(")")}, n),
		slices.Repeat([]lex.Token{sign("-")}, n),
		slices.Repeat([]lex.Token{sign("-"), sign("(")}, n),
		slices.Repeat([]lex.Token{word("x"), sign("-")}, n),
		slices.Repeat([]lex.Token{word("x")}, n),
		slices.Concat(slices.Repeat([]lex.Token{sign("(")}, n), []lex.Token{word("x")}, slices.Repeat([]lex.Token{sign(")")}, n-1)),
		slices.Concat(slices.Repeat([]lex.Token{sign("(")}, n), []lex.Token{word("x")}, slices.Repeat([]lex.Token{sign(")")}, n+1)),
	} {
		if e, code := expr.Parse(l...); e != nil || code != api.ErrSyntax {
			t.Errorf("%d tokens from %v on: code %d", len(l), l[:2], code)
		}
	}
}

// wantSame checks the expression of many tokens x, which is the same again when
// its text is parsed, and that nothing else about it is too deep.
func wantSame(t *testing.T, want *expr.Node, l []lex.Token) {
	t.Helper()
	e, code := expr.Parse(l...)
	if code != api.OK || !expr.Same(e, want) {
		t.Fatalf("%d tokens from %v on have another expression, or none: code %d", len(l), l[:2], code)
	}
	again, code := expr.Parse(tokensOfLong(t, expr.Text(e))...)
	if code != api.OK || !expr.Same(again, want) {
		t.Errorf("the text of %d tokens from %v on has another expression, or none: code %d", len(l), l[:2], code)
	}
	if names := expr.Names(e, again); !slices.Equal(names, []string{"x"}) {
		t.Errorf("Names = %q", names)
	}
	if n, code := expr.Eval(e, 0, map[string]int{"x": 0}); n != 0 || code != api.OK {
		t.Errorf("Eval = %d, %d", n, code)
	}
	if n, code := expr.Eval(e, 0, nil); n != 0 || code != api.ErrUndefined {
		t.Errorf("Eval without values = %d, %d", n, code)
	}
}

// tokensOfLong returns the tokens of a text of any length, all of whose tokens
// have one byte.
func tokensOfLong(t *testing.T, text string) []lex.Token {
	t.Helper()
	var l []lex.Token
	for len(text) > 0 {
		size := min(len(text), api.MaxLine)
		l = append(l, tokensOf(t, text[:size])...)
		text = text[size:]
	}
	return l
}

// What is given stays as it is, and nothing behind it is read.
func TestArgumentsStay(t *testing.T) {
	line := tokensOf(t, "-(x+1)*2 MOD y + (")
	kept := slices.Clone(line)
	l := line[: len(line)-2 : len(line)-2]
	e, code := expr.Parse(l...)
	want := parsed(t, "-(x+1)*2 MOD y")
	if code != api.OK || !reflect.DeepEqual(e, want) {
		t.Errorf("Parse of a part of a list: %s, %d", expr.Text(e), code)
	}
	if e, code := expr.Parse(line[:len(line)-2]...); code != api.OK || !reflect.DeepEqual(e, want) {
		t.Errorf("Parse of a part of a list: %s, %d", expr.Text(e), code)
	}
	values := map[string]int{"x": 1, "y": 3}
	if n, code := expr.Eval(e, 5, values); n != -1 || code != api.OK {
		t.Errorf("Eval = %d, %d", n, code)
	}
	expr.Eval(parsed(t, "u+x"), 5, values)
	if !reflect.DeepEqual(values, map[string]int{"x": 1, "y": 3}) {
		t.Errorf("the values have changed: %v", values)
	}
	_ = expr.Text(e)
	list := []*expr.Node{e, nil, parsed(t, "w"), e}
	expr.Names(list...)
	expr.Same(e, list[2])
	if !reflect.DeepEqual(e, want) || list[0] != e || list[1] != nil || list[3] != e {
		t.Error("an expression has changed")
	}
	if !slices.Equal(line, kept) {
		t.Error("tokens have changed")
	}
	// Tokens may be changed after the call.
	clear(line)
	if !reflect.DeepEqual(e, want) {
		t.Error("an expression depends on the tokens that were given")
	}
}

// Functions may be called concurrently.
func TestConcurrentCalls(t *testing.T) {
	l := tokensOf(t, "-(x+1)*2 MOD y")
	bad := tokensOf(t, "(x")
	e := parsed(t, "-(x+1)*2 MOD y")
	values := map[string]int{"x": 1, "y": 3}
	var g sync.WaitGroup
	for range 8 {
		g.Go(func() {
			for range 200 {
				f, code := expr.Parse(l...)
				none, syntax := expr.Parse(bad...)
				n, _ := expr.Eval(e, 0, values)
				_, undefined := expr.Eval(e, 0, nil)
				if code != api.OK || none != nil || syntax != api.ErrSyntax || n != -1 || undefined != api.ErrUndefined || !expr.Same(e, f) || expr.Text(e) != "-(x + 1) * 2 MOD y" || len(expr.Names(e)) != 2 || expr.Level("MOD") != 6 {
					t.Error("a concurrent call has another result")
				}
			}
		})
	}
	g.Wait()
}
