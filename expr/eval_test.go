package expr_test

import (
	"math"
	"slices"
	"testing"

	"breadboard/api"
	"breadboard/expr"
	"breadboard/lex"
)

// sampleValues are the symbols of the tests of this file. None of them has the
// name u, X or Big.
func sampleValues() map[string]int {
	return map[string]int{"x": 7, "y": -3, "zero": 0, "one": 1, "minus": -1, "big": most, "least": least, "_a.9?@": 12}
}

// wantEval checks the value of a line at the address 100.
func wantEval(t *testing.T, line string, want int) {
	t.Helper()
	if n, e := expr.Eval(parsed(t, line), 100, sampleValues()); n != want || e != api.OK {
		t.Errorf("Eval(%s) = %d, %d; want %d, 0", line, n, e, want)
	}
}

// wantMistake checks that lines have no value at the address 100.
func wantMistake(t *testing.T, want api.Code, lines ...string) {
	t.Helper()
	for _, line := range lines {
		if n, e := expr.Eval(parsed(t, line), 100, sampleValues()); n != 0 || e != want {
			t.Errorf("Eval(%s) = %d, %d; want 0, %d", line, n, e, want)
		}
	}
}

// P17.2: nil has no value, whatever else is given.
func TestEvalOfNil(t *testing.T) {
	for _, at := range []int{0, 1, -1, most, least} {
		for _, values := range []map[string]int{nil, {}, sampleValues()} {
			if n, e := expr.Eval(nil, at, values); n != 0 || e != api.ErrNil {
				t.Errorf("Eval(nil, %d) = %d, %d", at, n, e)
			}
		}
	}
}

// P17.2: numbers and addresses have themselves as values, with symbols or
// without any.
func TestEvalOfNumbersAndHere(t *testing.T) {
	for _, values := range []map[string]int{nil, {}, sampleValues(), {"$": 5, "": 6}} {
		for _, at := range []int{0, 1, -1, 255, 65535, 65536, most, most - 1, least, least + 1} {
			if n, e := expr.Eval(here(), at, values); n != at || e != api.OK {
				t.Errorf("Eval($, %d) = %d, %d", at, n, e)
			}
			for _, number := range []int{0, 1, 97, 65535} {
				if n, e := expr.Eval(&expr.Node{Kind: expr.Num, N: number}, at, values); n != number || e != api.OK {
					t.Errorf("Eval(%d) = %d, %d", number, n, e)
				}
			}
		}
	}
	wantEval(t, "0", 0)
	wantEval(t, "0FFFFH", 65535)
	wantEval(t, "'A'", 65)
	wantEval(t, `"\"`, 92)
	wantEval(t, "$", 100)
	wantEval(t, "$+2", 102)
	wantEval(t, "$-$", 0)
	wantEval(t, "-$", -100)
	wantEval(t, "$*$", 10000)
	// The value at other addresses.
	for at, want := range map[int]int{0: 2, -2: 0, -3: -1, most - 2: most, least: least + 2} {
		if n, e := expr.Eval(parsed(t, "$+2"), at, nil); n != want || e != api.OK {
			t.Errorf("Eval($+2, %d) = %d, %d", at, n, e)
		}
	}
	for _, at := range []int{most, most - 1} {
		if n, e := expr.Eval(parsed(t, "$+2"), at, nil); n != 0 || e != api.ErrRange {
			t.Errorf("Eval($+2, %d) = %d, %d", at, n, e)
		}
	}
}

// P17.2: symbols have their values, by their names in exactly these letters.
func TestEvalOfSymbols(t *testing.T) {
	wantEval(t, "x", 7)
	wantEval(t, "y", -3)
	wantEval(t, "zero", 0)
	wantEval(t, "big", most)
	wantEval(t, "least", least)
	wantEval(t, "_a.9?@", 12)
	wantEval(t, "x+x", 14)
	wantEval(t, "x*y", -21)
	wantMistake(t, api.ErrUndefined, "u", "X", "Y", "Zero", "BIG", "xx", "_", "-u", "~u", "+u", "u+1", "1+u", "u-u", "u*0", "0*u", "u&0", "u MOD 1")
	for _, values := range []map[string]int{nil, {}, {"": 1, "u ": 2, "U": 3}} {
		if n, e := expr.Eval(symbol("u"), 3, values); n != 0 || e != api.ErrUndefined {
			t.Errorf("Eval(u) = %d, %d", n, e)
		}
	}
	if n, e := expr.Eval(symbol(""), 3, map[string]int{"u": 1}); n != 0 || e != api.ErrUndefined {
		t.Errorf("Eval of an empty name without a value = %d, %d", n, e)
	}
	// A symbol with the value 0 has one, and names are arbitrary strings.
	if n, e := expr.Eval(symbol(""), 3, map[string]int{"": 0}); n != 0 || e != api.OK {
		t.Errorf("Eval of an empty name = %d, %d", n, e)
	}
	if n, e := expr.Eval(symbol("$"), 3, map[string]int{"$": 4}); n != 4 || e != api.OK {
		t.Errorf("Eval of the name $ = %d, %d", n, e)
	}
}

// P17.2: unary operators.
func TestEvalUnary(t *testing.T) {
	wantEval(t, "-5", -5)
	wantEval(t, "-0", 0)
	wantEval(t, "--x", 7)
	wantEval(t, "-y", 3)
	wantEval(t, "+5", 5)
	wantEval(t, "+y", -3)
	wantEval(t, "++least", least)
	wantEval(t, "~0", -1)
	wantEval(t, "~-1", 0)
	wantEval(t, "~5", -6)
	wantEval(t, "~~y", -3)
	wantEval(t, "~big", least)
	wantEval(t, "~least", most)
	wantEval(t, "-big", -most)
	wantEval(t, "-(-big)", most)
	wantEval(t, "-+~x", 8)
	wantEval(t, "-(x+1)", -8)
	wantEval(t, "-x*2", -14)
	wantEval(t, "-x+2", -5)
	wantEval(t, "~x&0FH", 8)
	wantMistake(t, api.ErrRange, "-least", "--least", "~-least", "-least-1", "0*-least")
}

// P17.2: or, exclusive or, and of the bits, also of negative numbers.
func TestEvalBits(t *testing.T) {
	wantEval(t, "12|10", 14)
	wantEval(t, "12^10", 6)
	wantEval(t, "12&10", 8)
	wantEval(t, "0FFH^0FH", 240)
	wantEval(t, "-1&0FFFFH", 65535)
	wantEval(t, "-2|1", -1)
	wantEval(t, "-1^5", -6)
	wantEval(t, "-4&-6", -8)
	wantEval(t, "-4|-6", -2)
	wantEval(t, "-4^-6", 6)
	wantEval(t, "big|least", -1)
	wantEval(t, "big^least", -1)
	wantEval(t, "big&least", 0)
	wantEval(t, "least|1", least+1)
	wantEval(t, "least^least", 0)
	wantEval(t, "least^big^1", -2)
	wantEval(t, "least&-1", least)
	wantEval(t, "1|2^3&1", 3)
	wantEval(t, "6&3|8", 10)
}

// P17.2: shifts by 0 to 31, and by other numbers.
func TestEvalShifts(t *testing.T) {
	for n := range 31 {
		values := map[string]int{"n": n, "big": most, "least": least}
		for line, want := range map[string]int{"1<<n": 1 << n, "-1<<n": -1 << n, "0<<n": 0, "-1>>n": -1, "0>>n": 0, "big>>n": most >> n, "least>>n": least >> n} {
			if got, e := expr.Eval(parsed(t, line), 0, values); got != want || e != api.OK {
				t.Errorf("Eval(%s) for %d = %d, %d; want %d", line, n, got, e, want)
			}
		}
	}
	wantEval(t, "0<<31", 0)
	wantEval(t, "-1<<31", least)
	wantEval(t, "1<<30", 1<<30)
	wantEval(t, "-1<<30", -1<<30)
	wantEval(t, "3<<29", 3<<29)
	wantEval(t, "-2<<30", least)
	wantEval(t, "big<<0", most)
	wantEval(t, "least<<0", least)
	wantEval(t, "big>>0", most)
	wantEval(t, "big>>1", most>>1)
	wantEval(t, "big>>30", 1)
	wantEval(t, "big>>31", 0)
	wantEval(t, "least>>0", least)
	wantEval(t, "least>>1", -1<<30)
	wantEval(t, "least>>31", -1)
	wantEval(t, "y>>1", -2)
	wantEval(t, "-1>>1", -1)
	wantEval(t, "-1>>31", -1)
	wantEval(t, "-4>>1", -2)
	wantEval(t, "-5>>2", -2)
	wantEval(t, "7>>1", 3)
	wantEval(t, "7>>3", 0)
	wantEval(t, "1<<4+1", 32)
	wantEval(t, "256>>4>>1", 8)
	wantEval(t, "1<<(4>>1)", 4)
	wantMistake(t, api.ErrRange, "1<<31", "2<<30", "-2<<31", "-3<<30", "3<<30", "big<<1", "least<<1", "big<<31", "least<<31", "65535<<31", "65535<<16", "32768<<16", "-32769<<16")
	for _, n := range []string{"-1", "-2", "32", "33", "63", "64", "65", "255", "256", "65535", "big", "least", "(0-big)", "(1<<30)"} {
		wantMistake(t, api.ErrRange, "1<<"+n, "1>>"+n, "0<<"+n, "0>>"+n, "-1>>"+n, "-1<<"+n, "big>>"+n)
	}
}

// P17.2: sums, differences and products, at both ends of the range and beside
// them.
func TestEvalSums(t *testing.T) {
	wantEval(t, "2+3*4", 14)
	wantEval(t, "(2+3)*4", 20)
	wantEval(t, "10-3-2", 5)
	wantEval(t, "10-(3-2)", 9)
	wantEval(t, "5-7", -2)
	wantEval(t, "y-x", -10)
	wantEval(t, "y*y", 9)
	wantEval(t, "y*x", -21)
	wantEval(t, "big+0", most)
	wantEval(t, "big-1+1", most)
	wantEval(t, "big+least", -1)
	wantEval(t, "least+big", -1)
	wantEval(t, "least-0", least)
	wantEval(t, "least+1-1", least)
	wantEval(t, "-1-big", least)
	wantEval(t, "0-big-1", least)
	wantEval(t, "-1-least", most)
	wantEval(t, "least-least", 0)
	wantEval(t, "big-big", 0)
	wantEval(t, "big*1", most)
	wantEval(t, "big*-1", -most)
	wantEval(t, "least*1", least)
	wantEval(t, "least*0", 0)
	wantEval(t, "0*least", 0)
	wantEval(t, "32768*32768*1", 1<<30)
	wantEval(t, "32768*65535+32767", most)
	wantEval(t, "-32768*65535-32768", least)
	wantEval(t, "46340*46340", 46340*46340)
	wantEval(t, "46341*-46340", -46341*46340)
	wantMistake(t, api.ErrRange, "big+1", "1+big", "big+big", "least-1", "least+-1", "-2-big", "least+least", "big-least", "big--1", "0-least", "least-big", "big*2", "2*big", "least*-1", "-1*least", "least*2", "least*least", "big*big", "big*least", "46341*46341", "-32768*65535-32769", "65535*65535", "32768*65535+32768")
	wantMistake(t, api.ErrRange, "big+1-1", "least-1+1", "big*2/2", "(big+1)*0", "0*(big+1)", "(1<<31)>>31", "-(-least)", "big+big+least", "0&(big+1)")
}

// P17.2: divisions for each sign of both numbers, and by 0.
func TestEvalDivisions(t *testing.T) {
	wantEval(t, "7/2", 3)
	wantEval(t, "-7/2", -3)
	wantEval(t, "7/-2", -3)
	wantEval(t, "-7/-2", 3)
	wantEval(t, "7 MOD 2", 1)
	wantEval(t, "-7 MOD 2", -1)
	wantEval(t, "7 MOD -2", 1)
	wantEval(t, "-7 MOD -2", -1)
	wantEval(t, "6/3", 2)
	wantEval(t, "-6/3", -2)
	wantEval(t, "6 MOD -3", 0)
	wantEval(t, "-6 MOD 3", 0)
	wantEval(t, "0/5", 0)
	wantEval(t, "0/-5", 0)
	wantEval(t, "0 MOD 5", 0)
	wantEval(t, "2/7", 0)
	wantEval(t, "-2/7", 0)
	wantEval(t, "2 MOD 7", 2)
	wantEval(t, "-2 MOD 7", -2)
	wantEval(t, "100/7/2", 7)
	wantEval(t, "100/(7/2)", 33)
	wantEval(t, "x Mod 4", 3)
	wantEval(t, "big/1", most)
	wantEval(t, "big/-1", -most)
	wantEval(t, "least/1", least)
	wantEval(t, "least/2", -1<<30)
	wantEval(t, "least/least", 1)
	wantEval(t, "big/least", 0)
	wantEval(t, "least/big", -1)
	wantEval(t, "least MOD big", -1)
	wantEval(t, "big MOD least", most)
	wantEval(t, "least MOD least", 0)
	wantEval(t, "big MOD -1", 0)
	wantEval(t, "least MOD -1", 0)
	wantEval(t, "least MOD 1", 0)
	wantEval(t, "least MOD 10", -8)
	wantMistake(t, api.ErrRange, "least/-1")
	wantMistake(t, api.ErrZero, "1/0", "0/0", "-1/0", "1 MOD 0", "0 MOD 0", "-1 MOD 0", "big/0", "least/0", "least MOD 0", "$/zero", "1/(x-7)", "1 MOD (x-7)", "1/-0", "1/(2/3)", "1/(4 MOD 2)", "-(1/0)", "1+1/0", "1/0+1", "1/0*0", "0*(1/0)")
}

// P17.2: of two mistakes, the one that is met first counts.
func TestEvalOrder(t *testing.T) {
	mistakes := map[string]api.Code{
		"u": api.ErrUndefined, "1/0": api.ErrZero, "1 MOD 0": api.ErrZero, "big+1": api.ErrRange, "1<<32": api.ErrRange, "1>>-1": api.ErrRange, "-least": api.ErrRange,
		"~(u)": api.ErrUndefined, "1+(1/0)": api.ErrZero, "(big*2)-u": api.ErrRange, "u/0": api.ErrUndefined, "u<<32": api.ErrUndefined, "big*2/0": api.ErrRange, "0<<(1/0)": api.ErrZero, "1/0<<99": api.ErrZero,
	}
	for a, code := range mistakes {
		wantMistake(t, code, a, "-("+a+")", "+("+a+")", "~("+a+")")
		for _, op := range ops() {
			wantMistake(t, code, "("+a+") "+op+" 1", "1 "+op+" ("+a+")", "("+a+") "+op+" 0", "0 "+op+" ("+a+")", "99 "+op+" ("+a+")", "("+a+") "+op+" 99", "big "+op+" ("+a+")", "least "+op+" ("+a+")")
			for b := range mistakes {
				wantMistake(t, code, "("+a+") "+op+" ("+b+")")
			}
		}
	}
	wantMistake(t, api.ErrUndefined, "u+1/0", "u/0", "u MOD 0", "u<<99", "1/u", "1<<u", "x+u*big")
	wantMistake(t, api.ErrZero, "1/0+u", "1/0/0", "1/0<<99")
	wantMistake(t, api.ErrRange, "(big+1)/0", "(1<<31)+u", "(big+1) MOD 0", "(1>>32)/0")
}

// P17.2: no operator wraps around at numbers that only tokens made by hand
// have.
func TestEvalOfNumbersOutOfRange(t *testing.T) {
	made := func(l ...lex.Token) *expr.Node {
		e, code := expr.Parse(l...)
		if code != api.OK {
			t.Fatalf("Parse(%v): %d", l, code)
		}
		return e
	}
	edges := []int{math.MaxInt, math.MaxInt - 1, math.MinInt, math.MinInt + 1, 1 << 32, -1 << 32, 1<<32 + 1, 1 << 31, 1<<31 + 1, least - 1, 1 << 62, -1 << 62, 1 << 33, 3 << 61}
	for _, n := range edges {
		// A number alone is no result of an operator.
		if got, e := expr.Eval(made(num(n)), 0, nil); got != n || e != api.OK {
			t.Errorf("Eval(%d) = %d, %d", n, got, e)
		}
		if got, e := expr.Eval(made(sign("+"), num(n)), 0, nil); got != 0 || e != api.ErrRange {
			t.Errorf("Eval(+%d) = %d, %d", n, got, e)
		}
		for _, m := range slices.Concat(edges, []int{0, 1, 2, 31, 32, -1, -2, most, least}) {
			for _, op := range ops() {
				wantModelValue(t, binary(number(n), op, number(m)), 0, nil)
				wantModelValue(t, binary(number(m), op, number(n)), 0, nil)
			}
		}
		for _, op := range allUnary {
			wantModelValue(t, unary(op, number(n)), 0, nil)
		}
	}
}
