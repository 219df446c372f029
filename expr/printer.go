package expr

import (
	"strings"

	"breadboard/num"
)

// printer puts the text of an expression together.
type printer struct {
	operators map[string]operator
	text      strings.Builder
}

// print prints an expression where the parser takes one of at least a level,
// in brackets if its own level is less.
func (p *printer) print(e *Node, least int) {
	level := p.level(e)
	if level < least {
		p.text.WriteString("(")
		p.print(e, lowest)
		p.text.WriteString(")")
		return
	}
	switch e.Kind {
	case Num:
		p.text.WriteString(num.Text(e.N))
	case Sym:
		p.text.WriteString(e.Name)
	case Here:
		p.text.WriteString("$")
	case Unary:
		p.text.WriteString(e.Name)
		p.print(e.A, tight)
	case Binary:
		p.print(e.A, level)
		p.text.WriteString(" " + e.Name + " ")
		p.print(e.B, level+1)
	}
}

// level returns the level of an expression, which is above those of all
// operators if it is no Binary.
func (p *printer) level(e *Node) int {
	if e.Kind == Binary {
		return p.operators[e.Name].level
	}
	return tight
}
