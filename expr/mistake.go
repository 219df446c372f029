package expr

import "breadboard/api"

// mistake is the panic of what finds a mistake in an expression.
type mistake struct{ code api.Code }

// attempt returns what a function returns, and OK; or a zero value and the
// code of the mistake that it has found. So no step on the way to a mistake
// has to ask whether there is one.
func attempt[T any](find func() T) (result T, e api.Code) {
	defer func() {
		switch cause := recover().(type) {
		case nil:
		case mistake:
			e = cause.code
		default:
			// A mistake of the program must not look like one of an expression.
			panic(cause)
		}
	}()
	return find(), api.OK
}
