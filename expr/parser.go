package expr

import (
	"slices"

	"breadboard/api"
	"breadboard/lex"
	"breadboard/num"
	"breadboard/operand"
)

// tokens are those that are not taken yet.
type tokens struct{ rest []lex.Token }

// next returns the next token. Behind the last one this is an End, which
// belongs to no expression.
func (t *tokens) next() lex.Token {
	if len(t.rest) == 0 {
		return lex.Token{Kind: lex.End}
	}
	return t.rest[0]
}

// take takes the next token.
func (t *tokens) take() lex.Token {
	first := t.next()
	t.rest = t.rest[min(1, len(t.rest)):]
	return first
}

// parser finds the expression of its tokens.
type parser struct {
	tokens
	operators map[string]operator
}

// whole returns the expression of all tokens.
func (p *parser) whole() *Node {
	e := p.chain(lowest)
	if len(p.rest) > 0 {
		panic(mistake{api.ErrSyntax})
	}
	// The names come last, since mistakes of syntax precede theirs.
	if slices.ContainsFunc(Names(e), operand.Reserved) {
		panic(mistake{api.ErrReserved})
	}
	return e
}

// chain takes an expression in which no binary operator outside of brackets
// has a level less than the given one.
func (p *parser) chain(least int) *Node {
	e := p.part()
	for {
		op := operatorName(p.next())
		level := p.operators[op].level
		// The level of what is no binary operator is less than all others.
		if level < least {
			return e
		}
		p.take()
		e = &Node{Kind: Binary, Name: op, A: e, B: p.chain(level + 1)}
	}
}

// part takes an expression that is no Binary or has brackets around it.
func (p *parser) part() *Node {
	t := p.take()
	switch {
	case p.operators[operatorName(t)].unary != nil:
		return &Node{Kind: Unary, Name: t.Text, A: p.part()}
	case lex.Is(t, "("):
		return p.inBrackets()
	case lex.Is(t, "$"):
		return &Node{Kind: Here}
	case t.Kind == lex.Number:
		return &Node{Kind: Num, N: t.N}
	case t.Kind == lex.String && len(t.Text) == 1:
		return &Node{Kind: Num, N: int(t.Text[0])}
	case t.Kind == lex.Word && !isMod(t):
		return &Node{Kind: Sym, Name: t.Text}
	}
	panic(mistake{api.ErrSyntax})
}

// inBrackets takes an expression and the bracket that closes it.
func (p *parser) inBrackets() *Node {
	e := p.chain(lowest)
	if !lex.Is(p.take(), ")") {
		panic(mistake{api.ErrSyntax})
	}
	return e
}

// isMod reports whether a token is the operator MOD.
func isMod(t lex.Token) bool { return t.Kind == lex.Word && num.Upper(t.Text) == mod }

// operatorName returns the name of the operator that a token can be, and ""
// if it can be none. MOD is one as a word only, and all others as signs only.
func operatorName(t lex.Token) string {
	switch {
	case isMod(t):
		return mod
	case t.Kind == lex.Sign && t.Text != mod:
		return t.Text
	}
	return ""
}
