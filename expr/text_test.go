package expr_test

import (
	"math"
	"reflect"
	"slices"
	"strings"
	"testing"

	"breadboard/expr"
	"breadboard/lex"
)

// wantText checks the text of a line's expression, and that the text has the
// same expression.
func wantText(t *testing.T, line, want string) {
	t.Helper()
	e := parsed(t, line)
	if got := expr.Text(e); got != want {
		t.Errorf("Text(%s) = %q; want %q", line, got, want)
	}
	if again := parsed(t, want); !reflect.DeepEqual(e, again) {
		t.Errorf("%s and %s have different expressions", line, want)
	}
}

// P17.3: nil, and what has one token.
func TestTextOfSingleTokens(t *testing.T) {
	if got := expr.Text(nil); got != "" {
		t.Errorf("Text(nil) = %q", got)
	}
	wantText(t, "0", "0")
	wantText(t, "9", "9")
	wantText(t, "10", "0AH")
	wantText(t, "16", "10H")
	wantText(t, "300", "12CH")
	wantText(t, "$0ff", "0FFH")
	wantText(t, "%101", "5")
	wantText(t, "65535", "0FFFFH")
	wantText(t, "'0'", "30H")
	wantText(t, "\"\xff\"", "0FFH")
	wantText(t, "x", "x")
	wantText(t, "Loop_.9?@", "Loop_.9?@")
	wantText(t, "mode", "mode")
	wantText(t, "$", "$")
	wantText(t, "(((x)))", "x")
	// Numbers that no line has, have no text.
	for _, n := range []int{-1, 65536, most, least, math.MaxInt, math.MinInt} {
		if got := expr.Text(number(n)); got != "" {
			t.Errorf("Text(%d) = %q", n, got)
		}
	}
	if e, _ := expr.Parse(num(-1), sign("+"), num(2)); expr.Text(e) != " + 2" {
		t.Errorf("Text of a sum with a number that has no text: %q", expr.Text(e))
	}
	if e, _ := expr.Parse(word("a b"), sign("+"), word("")); expr.Text(e) != "a b + " {
		t.Errorf("Text of a sum of names that are no words: %q", expr.Text(e))
	}
}

// P17.3: unary operators, with brackets around what is Binary only.
func TestTextOfUnary(t *testing.T) {
	for _, op := range allUnary {
		wantText(t, op+" 1", op+"1")
		wantText(t, op+" x", op+"x")
		wantText(t, op+" $", op+"$")
		wantText(t, op+"(x)", op+"x")
		wantText(t, "("+op+"((x)))", op+"x")
		for _, other := range allUnary {
			wantText(t, op+" "+other+" x", op+other+"x")
			wantText(t, op+"("+other+"(x))", op+other+"x")
			wantText(t, op+"("+other+"(x+y))", op+other+"(x + y)")
		}
		for _, between := range ops() {
			wantText(t, op+"(x "+between+" y)", op+"(x "+between+" y)")
			wantText(t, "("+op+"x)"+between+" y", op+"x "+between+" y")
			wantText(t, "x "+between+"("+op+" y)", "x "+between+" "+op+"y")
			wantText(t, "x "+between+op+"(y "+between+" w)", "x "+between+" "+op+"(y "+between+" w)")
		}
	}
}

// P17.3: brackets exactly where they are needed, for each two operators.
func TestTextOfTwoOperators(t *testing.T) {
	for low, lower := range allOps {
		for high, higher := range allOps {
			for _, a := range lower {
				for _, b := range higher {
					// a is on the left of b.
					want := "x " + a + " y " + b + " w"
					if low < high {
						want = "(x " + a + " y) " + b + " w"
					}
					wantText(t, "(x "+a+" y) "+b+" w", want)
					// b is on the right of a.
					want = "x " + a + " (y " + b + " w)"
					if low < high {
						want = "x " + a + " y " + b + " w"
					}
					wantText(t, "x "+a+" (y "+b+" w)", want)
				}
			}
		}
	}
}

// P17.3: one space around binary operators, whatever the line has, and
// brackets in larger expressions.
func TestTextOfLines(t *testing.T) {
	wantText(t, "x+y", "x + y")
	wantText(t, " x \t+  y ", "x + y")
	wantText(t, "x mod y", "x MOD y")
	wantText(t, "x Mod y mOD w", "x MOD y MOD w")
	wantText(t, "x<<y", "x << y")
	wantText(t, "$-$", "$ - $")
	wantText(t, "(x+y)+w", "x + y + w")
	wantText(t, "x+(y+w)", "x + (y + w)")
	wantText(t, "x-(y-(w-1))", "x - (y - (w - 1))")
	wantText(t, "((x-y)-w)-1", "x - y - w - 1")
	wantText(t, "(x*y)+(w/2)", "x * y + w / 2")
	wantText(t, "(x|y)^(w&1)", "(x | y) ^ w & 1")
	wantText(t, "~(x|y)&w", "~(x | y) & w")
	wantText(t, "-(x+y)*-(w)", "-(x + y) * -w")
	wantText(t, "(x|(y^(w&(1<<(2+(3*4))))))", "x | y ^ w & 1 << 2 + 3 * 4")
	wantText(t, "((((((x*2)+3)<<1)&y)^w)|$)", "x * 2 + 3 << 1 & y ^ w | $")
	wantText(t, "2*(3*(4+5))", "2 * (3 * (4 + 5))")
	wantText(t, "('a'-'A')*(x)", "(61H - 41H) * x")
}

// wantNames checks the names of all symbols of some lines.
func wantNames(t *testing.T, want []string, lines ...string) {
	t.Helper()
	var l []*expr.Node
	for _, line := range lines {
		l = append(l, parsed(t, line))
	}
	if got := expr.Names(l...); !slices.Equal(got, want) {
		t.Errorf("Names(%q) = %q; want %q", lines, got, want)
	}
}

// P17.4: names of symbols, each once, in ascending order of bytes.
func TestNames(t *testing.T) {
	wantNames(t, nil)
	wantNames(t, nil, "1", "$", "'x'", "-1", "$+2*3")
	wantNames(t, []string{"x"}, "x")
	wantNames(t, []string{"x"}, "-x")
	wantNames(t, []string{"x"}, "x+x*x")
	wantNames(t, []string{"x"}, "x", "x", "1", "~x")
	wantNames(t, []string{"x", "y"}, "y-x")
	wantNames(t, []string{"x", "y"}, "y", "x", "y")
	wantNames(t, []string{"loop", "x", "y"}, "x+loop*x", "-(y)")
	wantNames(t, []string{".a", "?", "@", "X", "Xy", "_x", "x", "x.", "x1", "xY", "x_", "xy"}, "xy+x+X+_x+?", "@+.a+x.+x1*x_", "Xy MOD xY")
	wantNames(t, []string{"aa", "bb"}, "1+(2-(3*(-(~(bb)))))", "aa MOD 5")
	// Operators have names, which are none of symbols.
	wantNames(t, nil, "1 MOD 2", "~1", "1|2^3&4<<5+6*7")
	if got := expr.Names(symbol("é"), symbol("\xff"), symbol(""), symbol("w"), symbol("+"), symbol("é")); !slices.Equal(got, []string{"", "+", "w", "é", "\xff"}) {
		t.Errorf("Names of symbols that no line has = %q", got)
	}
	var many []*expr.Node
	for range 1000 {
		many = append(many, parsed(t, "w+y"), nil, parsed(t, "x"))
	}
	if got := expr.Names(many...); !slices.Equal(got, []string{"w", "x", "y"}) {
		t.Errorf("Names of many expressions = %q", got)
	}
}

// P17.4: nil has no names, and results are new memory.
func TestNamesOfNil(t *testing.T) {
	if got := expr.Names(nil...); len(got) != 0 {
		t.Errorf("Names() = %q", got)
	}
	if got := expr.Names(nil, nil); len(got) != 0 {
		t.Errorf("Names(nil, nil) = %q", got)
	}
	e := parsed(t, "y+x")
	if got := expr.Names(nil, e, nil); !slices.Equal(got, []string{"x", "y"}) {
		t.Errorf("Names(nil, y + x, nil) = %q", got)
	}
	first := expr.Names(e)
	clear(first[:cap(first)])
	if got := expr.Names(e); !slices.Equal(got, []string{"x", "y"}) || expr.Text(e) != "y + x" {
		t.Errorf("Names again = %q", got)
	}
}

// P17.4: levels of binary operators.
func TestLevel(t *testing.T) {
	for op, want := range map[string]int{"|": 1, "^": 2, "&": 3, "<<": 4, ">>": 4, "+": 5, "-": 5, "*": 6, "/": 6, "MOD": 6} {
		if got := expr.Level(op); got != want {
			t.Errorf("Level(%s) = %d; want %d", op, got, want)
		}
		for _, other := range []string{op + " ", " " + op, op + op, op + "\x00", "(" + op} {
			if got := expr.Level(other); got != 0 {
				t.Errorf("Level(%q) = %d", other, got)
			}
		}
	}
	for _, s := range []string{"", " ", "~", "(", ")", "$", ",", ":", "=", "<", ">", "mod", "Mod", "mOd", "moD", "MOd", "MoD", "mOD", "MODE", "MO", "OR", "XOR", "AND", "**", "<<<", "><", "%", "!", "x", "1", "é", "\xff"} {
		if got := expr.Level(s); got != 0 {
			t.Errorf("Level(%q) = %d", s, got)
		}
	}
}

// P17.4: expressions that are the same, and such that are not.
func TestSame(t *testing.T) {
	lines := []string{
		"0", "1", "65535", "x", "X", "y", "$", "-1", "+1", "~1", "-x", "-y", "-$", "--x", "-+x", "x+y", "y+x", "x-y", "x+x", "x+1", "x+2", "1+x", "x+$", "x mod y", "x/y", "x+y+w", "x+(y+w)", "x+(y-w)",
		"-(x+y)", "-x+y", "~(x+y)", "-(x+w)", "x*(y+w*(1-$))", "x*(y+w*(2-$))", "x*(y+w*(1-x))", "x*(y+w*(1+$))", "x*(y+-w*(1-$))", "x<<1", "x>>1", "x&1", "x|1", "x^1",
	}
	for i, a := range lines {
		for j, b := range lines {
			if got := expr.Same(parsed(t, a), parsed(t, b)); got != (i == j) {
				t.Errorf("Same(%s, %s) = %v", a, b, got)
			}
		}
		e := parsed(t, a)
		if !expr.Same(e, e) || expr.Same(e, nil) || expr.Same(nil, e) {
			t.Errorf("Same of %s and itself or nil", a)
		}
		if !expr.Same(e, parsed(t, "(("+a+"))")) {
			t.Errorf("Same of %s and the same in brackets", a)
		}
	}
	if !expr.Same(nil, nil) {
		t.Error("Same(nil, nil) = false")
	}
	for a, b := range map[string]string{"'x'": "78H", "0ABH": "171", "x mod y": "x MOD y", "(x*y)+w": "x * y+w", "-(x)": "- x", "$+1": "$+(1)"} {
		if !expr.Same(parsed(t, a), parsed(t, b)) || !expr.Same(parsed(t, b), parsed(t, a)) {
			t.Errorf("Same(%s, %s) = false", a, b)
		}
	}
	if expr.Same(number(1<<40), number(0)) || expr.Same(number(-1), number(math.MaxInt)) || !expr.Same(number(math.MinInt), number(math.MinInt)) {
		t.Error("Same of numbers that no line has")
	}
}

// P17.4: a difference in one field counts, however deep it is.
func TestSameDeepInside(t *testing.T) {
	build := func(inner *expr.Node) []*expr.Node {
		left, right, under := inner, inner, inner
		for range 100 {
			left, right, under = binary(left, "+", x), binary(x, "+", right), unary("-", under)
		}
		return []*expr.Node{left, right, under}
	}
	inner := []*expr.Node{number(1), number(2), x, symbol("X"), here(), unary("-", x), unary("~", x), unary("-", y), binary(x, "+", y), binary(x, "-", y), binary(y, "+", y), binary(x, "+", x)}
	for i, a := range inner {
		for j, b := range inner {
			other := build(b)
			for k, e := range build(a) {
				if got := expr.Same(e, other[k]); got != (i == j) {
					t.Errorf("Same(%s, %s) deep inside = %v", expr.Text(a), expr.Text(b), got)
				}
			}
		}
	}
}

// P17.5: the tokens of the text have the same expression, for texts as long as
// lines may be.
func TestTextAgain(t *testing.T) {
	for _, op := range ops() {
		line := "x" + strings.Repeat(" "+op+" x", 160)
		wantText(t, line, line)
	}
	for _, op := range allUnary {
		wantText(t, strings.Repeat(op, 1000)+"x", strings.Repeat(op, 1000)+"x")
		wantText(t, strings.Repeat(op+"(", 340)+"x"+strings.Repeat(")", 340), strings.Repeat(op, 340)+"x")
	}
	line := strings.Repeat("x - (", 150) + "x - x" + strings.Repeat(")", 150)
	wantText(t, line, line)
	for n := range 65536 {
		e, _ := expr.Parse(lex.Token{Kind: lex.Number, N: n})
		if again := parsed(t, expr.Text(e)); !expr.Same(e, again) {
			t.Fatalf("%d is another number again", n)
		}
	}
}
