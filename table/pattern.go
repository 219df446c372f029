package table

import (
	"iter"
	"strings"
)

// The lists of patterns, in their order. The small letters in the instructions
// stand for the fields of the bits and for the bytes that follow.
const (
	mainList = "00000000 NOP; 00001000 EX AF,AF'; 00010000 DJNZ e; 00011000 JR e; 001kk000 JR k,e; " +
		"00pp0001 LD p,w; 00pp1001 ADD HL,p; 00000010 LD (BC),A; 00010010 LD (DE),A; 00100010 LD (w),HL; " +
		"00110010 LD (w),A; 00001010 LD A,(BC); 00011010 LD A,(DE); 00101010 LD HL,(w); 00111010 LD A,(w); " +
		"00pp0011 INC p; 00pp1011 DEC p; 00rrr100 INC r; 00rrr101 DEC r; 00rrr110 LD r,n; " +
		"00000111 RLCA; 00001111 RRCA; 00010111 RLA; 00011111 RRA; 00100111 DAA; 00101111 CPL; " +
		"00110111 SCF; 00111111 CCF; 01110110 HALT; 01rrrsss LD r,s; 10aaasss a s; " +
		"11ccc000 RET c; 11qq0001 POP q; 11001001 RET; 11011001 EXX; 11101001 JP (HL); 11111001 LD SP,HL; " +
		"11ccc010 JP c,w; 11000011 JP w; 11010011 OUT (n),A; 11011011 IN A,(n); 11100011 EX (SP),HL; " +
		"11101011 EX DE,HL; 11110011 DI; 11111011 EI; 11ccc100 CALL c,w; 11qq0101 PUSH q; " +
		"11001101 CALL w; 11aaa110 a n; 11ttt111 RST t"
	cbList = "00ooosss o s; 01bbbsss BIT b,s; 10bbbsss RES b,s; 11bbbsss SET b,s"
	edList = "01110000 IN (C); 01rrr000 IN r,(C); 01110001 OUT (C),0; 01rrr001 OUT (C),r; " +
		"01pp0010 SBC HL,p; 01pp1010 ADC HL,p; 01pp0011 LD (w),p; 01pp1011 LD p,(w); " +
		"01xxx100 NEG; 01001101 RETI; 01xxx101 RETN; 01x0x110 IM 0; 01x10110 IM 1; 01x11110 IM 2; " +
		"01000111 LD I,A; 01001111 LD R,A; 01010111 LD A,I; 01011111 LD A,R; 01100111 RRD; 01101111 RLD; " +
		"10100000 LDI; 10100001 CPI; 10100010 INI; 10100011 OUTI; " +
		"10101000 LDD; 10101001 CPD; 10101010 IND; 10101011 OUTD; " +
		"10110000 LDIR; 10110001 CPIR; 10110010 INIR; 10110011 OTIR; " +
		"10111000 LDDR; 10111001 CPDR; 10111010 INDR; 10111011 OTDR"
)

// listOf returns the list that the entries of a page are built from: that of
// the page, or that of the page without DD or FD.
func listOf(page int) string {
	switch page {
	case Main, DD, FD:
		return mainList
	case CB, DDCB, FDCB:
		return cbList
	case ED:
		return edList
	}
	return ""
}

// pattern is one of a list.
type pattern struct {
	bits string // eight digits and letters of fields, from the highest bit on
	form string // the instruction
}

// patterns visits the patterns of a list in their order.
func patterns(list string) iter.Seq[pattern] {
	return func(yield func(pattern) bool) {
		for rest := list; rest != ""; {
			var row string
			row, rest, _ = strings.Cut(rest, "; ")
			bits, form, _ := strings.Cut(row, " ")
			if !yield(pattern{bits, form}) {
				return
			}
		}
	}
}

// masks returns the bits that are 1 in all opcodes of a pattern, and those that
// are open, because they belong to fields.
func (p pattern) masks() (ones, open byte) {
	for k, bit := range []byte(p.bits) {
		switch bit {
		case '0':
		case '1':
			ones |= 0x80 >> k
		default:
			open |= 0x80 >> k
		}
	}
	return ones, open
}

// fits reports whether an opcode is one of a pattern.
func (p pattern) fits(op byte) bool {
	ones, open := p.masks()
	return op&^open == ones
}

// opcodes visits the opcodes of a pattern.
func (p pattern) opcodes(yield func(op byte) bool) {
	ones, open := p.masks()
	for fields := byte(0); yield(ones|fields) && fields != open; {
		// The subtraction counts up by one in the open bits alone.
		fields = (fields - open) & open
	}
}

// find returns an opcode with the first pattern of a list that fits it, and
// true; or false, if none does.
func find(list string, op byte) (code, bool) {
	for p := range patterns(list) {
		if p.fits(op) {
			return code{p, op}, true
		}
	}
	return code{}, false
}

// codes visits the opcodes for which find finds a pattern, in ascending order.
// It goes through the list only once for all of them.
func codes(list string) iter.Seq[code] {
	return func(yield func(code) bool) {
		var first [256]pattern
		for p := range patterns(list) {
			for op := range p.opcodes {
				if first[op].bits == "" {
					first[op] = p
				}
			}
		}
		for op, p := range first {
			if p.bits != "" && !yield(code{p, byte(op)}) {
				return
			}
		}
	}
}
