package expr_test

import (
	"fmt"
	"math/big"
	"math/rand"
	"reflect"
	"slices"
	"strings"
	"testing"

	"breadboard/api"
	"breadboard/expr"
	"breadboard/lex"
)

// levelOf returns the level of a binary operator, and 0 for other strings.
func levelOf(op string) int {
	return max(0, slices.IndexFunc(allOps, func(l []string) bool { return slices.Contains(l, op) }))
}

// found is an expression of some tokens, and whether the first and the last of
// them are brackets around it.
type found struct {
	e          *expr.Node
	inBrackets bool
}

// needsNone reports whether an expression may be beside an operator that needs
// brackets around a Binary with a level less than the given one.
func (f found) needsNone(level int) bool {
	return f.inBrackets || f.e.Kind != expr.Binary || levelOf(f.e.Name) >= level
}

// chart finds all expressions of each part of some tokens, as the table of the
// chapter puts it.
type chart struct {
	l     []lex.Token
	known map[[2]int][]found
}

// single returns the expression of one token, and nil if there is none.
func single(t lex.Token) *expr.Node {
	switch t.Kind {
	case lex.Number:
		return number(t.N)
	case lex.String:
		if len(t.Text) == 1 {
			return number(int(t.Text[0]))
		}
	case lex.Word:
		if !strings.EqualFold(t.Text, "MOD") {
			return symbol(t.Text)
		}
	case lex.Sign:
		if t.Text == "$" {
			return here()
		}
	}
	return nil
}

// between returns the binary operator that a token is, and "" if it is none.
func between(t lex.Token) string {
	if t.Kind == lex.Word && strings.EqualFold(t.Text, "MOD") {
		return "MOD"
	}
	if t.Kind == lex.Sign && t.Text != "MOD" && levelOf(t.Text) > 0 {
		return t.Text
	}
	return ""
}

// all returns all expressions of the tokens from one index up to another.
func (c chart) all(from, to int) []found {
	if l, ok := c.known[[2]int{from, to}]; ok || from >= to {
		return l
	}
	var l []found
	if e := single(c.l[from]); e != nil && to == from+1 {
		l = append(l, found{e, false})
	}
	first, last := c.l[from], c.l[to-1]
	if first.Kind == lex.Sign && slices.Contains(allUnary, first.Text) {
		for _, a := range c.all(from+1, to) {
			if a.needsNone(7) {
				l = append(l, found{unary(first.Text, a.e), false})
			}
		}
	}
	if first == (lex.Token{Kind: lex.Sign, Text: "(", At: first.At}) && last == (lex.Token{Kind: lex.Sign, Text: ")", At: last.At}) {
		for _, a := range c.all(from+1, to-1) {
			l = append(l, found{a.e, true})
		}
	}
	for at := from + 1; at < to-1; at++ {
		op := between(c.l[at])
		if op == "" {
			continue
		}
		for _, a := range c.all(from, at) {
			for _, b := range c.all(at+1, to) {
				if a.needsNone(levelOf(op)) && b.needsNone(levelOf(op)+1) {
					l = append(l, found{binary(a.e, op, b.e), false})
				}
			}
		}
	}
	c.known[[2]int{from, to}] = l
	return l
}

var operandNames = strings.Fields("A AF AF' B BC C D DE E H HL I IX IXH IXL IY IYH IYL L M NC NZ P PE PO R SP Z")

// modelParse returns the expression of tokens, or the code that says why there
// is none.
func modelParse(t *testing.T, l []lex.Token) (*expr.Node, api.Code) {
	t.Helper()
	all := chart{l, map[[2]int][]found{}}.all(0, len(l))
	if len(all) > 1 {
		t.Fatalf("%v has %d expressions", l, len(all))
	}
	if len(all) == 0 {
		return nil, api.ErrSyntax
	}
	for _, token := range l {
		if token.Kind == lex.Word && slices.Contains(operandNames, strings.ToUpper(token.Text)) {
			return nil, api.ErrReserved
		}
	}
	return all[0].e, api.OK
}

// wantModel checks the expression of tokens against the model, and returns it.
func wantModel(t *testing.T, l []lex.Token) *expr.Node {
	t.Helper()
	want, code := modelParse(t, l)
	e, got := expr.Parse(l...)
	if got != code || !reflect.DeepEqual(e, want) {
		t.Fatalf("Parse(%v) = %s, %d; want %s, %d", l, expr.Text(e), got, expr.Text(want), code)
	}
	return e
}

// P17.1: all short lists of tokens.
func TestShortLists(t *testing.T) {
	t.Parallel()
	for _, c := range []struct {
		size   int
		pieces []lex.Token
	}{
		{5, []lex.Token{num(1), word("x"), sign("("), sign(")"), sign("-"), sign("*"), sign("|"), sign("~"), word("mod"), sign("$"), str("ab"), word("hl")}},
		{7, []lex.Token{num(1), sign("("), sign(")"), sign("+"), sign("&")}},
		{3, []lex.Token{num(1), str("a"), str(""), word("x"), word("MOD"), sign("("), sign(")"), sign("|"), sign("^"), sign("&"), sign("<<"), sign(">>"), sign("+"), sign("-"), sign("*"), sign("/"), sign("~"), sign("$"), sign(","), sign(":"), sign("="), sign("MOD"), word("c"), {}, {Kind: 5, Text: "x"}}},
	} {
		var visit func(l []lex.Token)
		visit = func(l []lex.Token) {
			wantModel(t, l)
			if len(l) < c.size {
				for _, p := range c.pieces {
					visit(append(l[:len(l):len(l)], p))
				}
			}
		}
		visit(nil)
	}
}

// modelText writes an expression, all of whose numbers are from 0 to 65535.
func modelText(e *expr.Node) string {
	switch e.Kind {
	case expr.Num:
		s := fmt.Sprintf("%X", e.N)
		if e.N < 10 {
			return s
		}
		if s[0] >= 'A' {
			s = "0" + s
		}
		return s + "H"
	case expr.Sym:
		return e.Name
	case expr.Here:
		return "$"
	case expr.Unary:
		return e.Name + modelPart(e.A, 7)
	}
	return modelPart(e.A, levelOf(e.Name)) + " " + e.Name + " " + modelPart(e.B, levelOf(e.Name)+1)
}

// modelPart writes an expression with brackets, if it is a Binary with a level
// less than the given one.
func modelPart(e *expr.Node, level int) string {
	if (found{e, false}).needsNone(level) {
		return modelText(e)
	}
	return "(" + modelText(e) + ")"
}

// modelNames puts the names of all symbols into a list.
func modelNames(l []string, e *expr.Node) []string {
	if e == nil {
		return l
	}
	if e.Kind == expr.Sym {
		l = append(l, e.Name)
	}
	return modelNames(modelNames(l, e.A), e.B)
}

// modelValue evaluates an expression with numbers of any size.
func modelValue(e *expr.Node, at int, values map[string]int) (*big.Int, api.Code) {
	switch e.Kind {
	case expr.Num:
		return big.NewInt(int64(e.N)), api.OK
	case expr.Here:
		return big.NewInt(int64(at)), api.OK
	case expr.Sym:
		if _, ok := values[e.Name]; !ok {
			return nil, api.ErrUndefined
		}
		return big.NewInt(int64(values[e.Name])), api.OK
	}
	a, code := modelValue(e.A, at, values)
	if code != api.OK {
		return nil, code
	}
	b := new(big.Int)
	if e.Kind == expr.Binary {
		if b, code = modelValue(e.B, at, values); code != api.OK {
			return nil, code
		}
	}
	n, code := modelApply(e, a, b)
	if code == api.OK && (n.Cmp(big.NewInt(least)) < 0 || n.Cmp(big.NewInt(most)) > 0) {
		return nil, api.ErrRange
	}
	return n, code
}

// modelApply applies the operator of an expression to numbers.
func modelApply(e *expr.Node, a, b *big.Int) (*big.Int, api.Code) {
	n := new(big.Int)
	if e.Kind == expr.Unary {
		return map[string]func(x *big.Int) *big.Int{"-": n.Neg, "+": n.Set, "~": n.Not}[e.Name](a), api.OK
	}
	switch e.Name {
	case "/", "MOD":
		if b.Sign() == 0 {
			return nil, api.ErrZero
		}
	case "<<", ">>":
		if b.Sign() < 0 || b.Cmp(big.NewInt(31)) > 0 {
			return nil, api.ErrRange
		}
	}
	switch e.Name {
	case "<<":
		return n.Mul(a, new(big.Int).Exp(big.NewInt(2), b, nil)), api.OK
	case ">>":
		// Div rounds down for a positive divisor.
		return n.Div(a, new(big.Int).Exp(big.NewInt(2), b, nil)), api.OK
	}
	return map[string]func(x, y *big.Int) *big.Int{"|": n.Or, "^": n.Xor, "&": n.And, "+": n.Add, "-": n.Sub, "*": n.Mul, "/": n.Quo, "MOD": n.Rem}[e.Name](a, b), api.OK
}

// wantModelValue checks the value of an expression against the model.
func wantModelValue(t *testing.T, e *expr.Node, at int, values map[string]int) {
	t.Helper()
	value, code := modelValue(e, at, values)
	want := 0
	if code == api.OK {
		want = int(value.Int64())
	}
	if n, got := expr.Eval(e, at, values); n != want || got != code {
		t.Fatalf("Eval(%s) at %d with %v = %d, %d; want %d, %d", expr.Text(e), at, values, n, got, want, code)
	}
}

// P17.2: all operators, with numbers at the ends of their ranges and beside
// them on both sides.
func TestOperatorsAtEdges(t *testing.T) {
	t.Parallel()
	edges := []int{0, 1, 2, 3, 5, 7, 8, 10, 15, 16, 29, 30, 31, 32, 33, 63, 64, 255, 256, 32767, 32768, 46340, 46341, 65535, 65536, 1 << 30, 1<<30 - 1, 1<<30 + 1, most - 1, most}
	for _, n := range slices.Clone(edges) {
		edges = append(edges, -n, -n-1)
	}
	for _, a := range edges {
		values := map[string]int{"x": a}
		for _, op := range allUnary {
			wantModelValue(t, unary(op, x), 0, values)
			wantModelValue(t, unary(op, here()), a, nil)
		}
		for _, b := range edges {
			values["y"] = b
			for _, op := range ops() {
				wantModelValue(t, binary(x, op, y), 0, values)
				wantModelValue(t, binary(here(), op, y), a, values)
			}
		}
	}
}

// generator makes random expressions and lists of tokens for them.
type generator struct {
	*rand.Rand
}

// tree returns a random expression of at most a depth.
func (g generator) tree(depth int) *expr.Node {
	kind := g.Intn(10)
	if depth == 0 {
		kind %= 4
	}
	switch {
	case kind == 0:
		return number([]int{0, 1, 2, 5, 10, 31, 32, 255, 256, 65535, g.Intn(65536)}[g.Intn(11)])
	case kind < 3:
		return symbol([]string{"x", "y", "w", "X", "loop", "_a.9", "big", "least"}[g.Intn(8)])
	case kind == 3:
		return here()
	case kind < 6:
		return unary(allUnary[g.Intn(3)], g.tree(depth-1))
	}
	return binary(g.tree(depth-1), ops()[g.Intn(10)], g.tree(depth-1))
}

// tokens returns tokens of an expression, with brackets where they are needed
// for the level, and sometimes where they are not.
func (g generator) tokens(e *expr.Node, level int) []lex.Token {
	if !(found{e, false}).needsNone(level) || g.Intn(6) == 0 {
		return slices.Concat([]lex.Token{sign("(")}, g.tokens(e, 0), []lex.Token{sign(")")})
	}
	switch e.Kind {
	case expr.Num:
		if e.N < 256 && g.Intn(3) == 0 {
			return []lex.Token{str(string([]byte{byte(e.N)}))}
		}
		return []lex.Token{num(e.N)}
	case expr.Sym:
		return []lex.Token{word(e.Name)}
	case expr.Here:
		return []lex.Token{sign("$")}
	case expr.Unary:
		return append([]lex.Token{sign(e.Name)}, g.tokens(e.A, 7)...)
	}
	op := sign(e.Name)
	if e.Name == "MOD" {
		op = word([]string{"MOD", "mod", "Mod", "mOD"}[g.Intn(4)])
	}
	return slices.Concat(g.tokens(e.A, levelOf(e.Name)), []lex.Token{op}, g.tokens(e.B, levelOf(e.Name)+1))
}

// values returns random values of some symbols.
func (g generator) values() map[string]int {
	values := map[string]int{"big": most, "least": least}
	for _, name := range []string{"x", "y", "w", "X", "loop", "_a.9"} {
		if g.Intn(12) > 0 {
			values[name] = g.value()
		}
	}
	return values
}

// value returns a number, most of the time a small one.
func (g generator) value() int {
	return []int{g.Intn(9) - 4, g.Intn(9) - 4, g.Intn(40) - 4, g.Intn(131072) - 65536, least + g.Intn(1<<32)}[g.Intn(5)]
}

// P17.1 to P17.5: random expressions with a fixed seed.
func TestRandomExpressions(t *testing.T) {
	t.Parallel()
	g := generator{rand.New(rand.NewSource(17))}
	good := 0
	for range 40000 {
		want := g.tree(g.Intn(6))
		l := g.tokens(want, 0)
		for i := range l {
			l[i].At = g.Intn(100)
		}
		e, code := expr.Parse(l...)
		if code != api.OK || !reflect.DeepEqual(e, want) || !expr.Same(e, want) {
			t.Fatalf("Parse(%v) = %s, %d; want %s", l, expr.Text(e), code, modelText(want))
		}
		text := expr.Text(e)
		if text != modelText(want) {
			t.Fatalf("Text(%v) = %s; want %s", l, text, modelText(want))
		}
		if len(text) <= api.MaxLine {
			wantParse(t, text, want)
		}
		names := modelNames(nil, e)
		slices.Sort(names)
		if got := expr.Names(e); !slices.Equal(got, slices.Compact(names)) {
			t.Fatalf("Names(%s) = %q", text, got)
		}
		at, values := g.value(), g.values()
		wantModelValue(t, e, at, values)
		if _, code := expr.Eval(e, at, values); code == api.OK {
			good++
		}
		other := g.tree(2)
		if expr.Same(e, other) != reflect.DeepEqual(e, other) {
			t.Fatalf("Same(%s, %s)", text, modelText(other))
		}
	}
	if good < 8000 {
		t.Errorf("only %d expressions had a value", good)
	}
}

// P17.1, P17.5: tokens of random expressions that are changed at some places,
// with a fixed seed.
func TestRandomLists(t *testing.T) {
	t.Parallel()
	g := generator{rand.New(rand.NewSource(71))}
	pieces := []lex.Token{num(1), str("a"), str(""), word("x"), word("mod"), sign("("), sign(")"), sign("("), sign(")"), sign("|"), sign("&"), sign("<<"), sign("+"), sign("-"), sign("-"), sign("*"), sign("~"), sign("$"), sign(","), word("hl"), {}}
	good := 0
	for range 20000 {
		l := g.tokens(g.tree(g.Intn(4)), 0)
		if len(l) > 24 {
			continue
		}
		for range g.Intn(4) {
			at := g.Intn(len(l) + 1)
			switch {
			case g.Intn(2) == 0:
				l = slices.Insert(l, at, pieces[g.Intn(len(pieces))])
			case at < len(l) && g.Intn(2) == 0:
				l[at] = pieces[g.Intn(len(pieces))]
			case at < len(l):
				l = slices.Delete(l, at, at+1)
			}
		}
		if e := wantModel(t, l); e != nil {
			good++
			wantParse(t, expr.Text(e), e)
		}
	}
	if good < 4000 {
		t.Errorf("only %d lists had an expression", good)
	}
}
