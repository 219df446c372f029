package expr

import "breadboard/api"

// evaluator finds values of expressions.
type evaluator struct {
	operators map[string]operator
	here      int
	values    map[string]int
}

// value returns the value of an expression.
func (v *evaluator) value(e *Node) int {
	switch e.Kind {
	case Num:
		return e.N
	case Sym:
		return v.symbol(e.Name)
	case Here:
		return v.here
	case Unary:
		return inRange(v.operators[e.Name].unary(v.value(e.A)))
	}
	// The mistakes of A precede those of B.
	a := v.value(e.A)
	b := v.value(e.B)
	return inRange(v.operators[e.Name].binary(a, b))
}

// symbol returns the value of a symbol.
func (v *evaluator) symbol(name string) int {
	n, ok := v.values[name]
	if !ok {
		panic(mistake{api.ErrUndefined})
	}
	return n
}
