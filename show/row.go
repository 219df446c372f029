package show

import (
	"strings"

	"breadboard/api"
	"breadboard/num"
)

// column is a part of a row.
type column struct {
	start int // the place at which it begins, if the row is not there yet
	least int // the least number of spaces in front of it
	text  func(addr int, x api.Item) string
}

// columns returns the parts of a row in order.
func columns() [3]column {
	return [...]column{
		{0, 0, func(addr int, _ api.Item) string { return num.Hex(addr, 4) }},
		{6, 2, func(_ int, x api.Item) string { return separated(" ", twoDigits, x.Raw) }},
		{18, 2, func(_ int, x api.Item) string { return Item(x) + remark(x) }},
	}
}

func twoDigits(n int) string { return num.Hex(n, 2) }

// remark returns what follows the text of an alias, which does not tell its
// instruction.
func remark(x api.Item) string {
	if !x.Alias {
		return ""
	}
	return "  ; " + Instr(x.Instr)
}

// Row returns the row of an item at an address, and "" if there is no such
// address.
func Row(addr int, x api.Item) string {
	if !isAddress(addr) {
		return ""
	}
	put := composer()
	for _, c := range columns() {
		spaces := max(c.start-len(put()), c.least)
		put(strings.Repeat(" ", spaces), c.text(addr, x))
	}
	return put()
}

// Table returns the rows of items, of which the first one is at an address, up
// to the first that is at none.
func Table(addr int, l ...api.Item) string {
	put := composer()
	for _, x := range l {
		if !isAddress(addr) {
			break
		}
		put(Row(addr, x), "\n")
		addr += len(x.Raw)
	}
	return put()
}

func isAddress(n int) bool { return num.Fits(0, api.Space-1, n) }
