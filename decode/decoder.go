package decode

import (
	"slices"
	"strings"

	"breadboard/api"
	"breadboard/num"
	"breadboard/search"
	"breadboard/table"
)

// missing is the panic of a cursor that is asked for a byte behind the last
// one.
type missing struct{}

// cursor takes bytes one after the other.
type cursor struct {
	bytes []byte
	at    int // the number of bytes that are taken
}

// next takes a byte.
func (c *cursor) next() byte {
	if c.at == len(c.bytes) {
		panic(missing{})
	}
	c.at++
	return c.bytes[c.at-1]
}

// word takes two bytes, the low one first.
func (c *cursor) word() int {
	low := int(c.next())
	return low + 256*int(c.next())
}

// signed takes a byte as a signed number.
func (c *cursor) signed() int { return num.Signed(c.next()) }

// taken returns a copy of the bytes that are taken.
func (c *cursor) taken() []byte { return slices.Clone(c.bytes[:c.at]) }

// keepFirst gives back all bytes but the first one.
func (c *cursor) keepFirst() { c.at = 1 }

// decoder finds the first item of the bytes of its cursor.
type decoder struct {
	cursor
	page         int
	need         int // the number of bytes that are known to belong to the item
	displacement int
	number       int
}

func newDecoder(b []byte) *decoder {
	return &decoder{cursor: cursor{bytes: b}, page: table.Main}
}

// item returns the first item. Wherever a byte is missing, the item is
// Truncated, so that no step has to ask whether there is one.
func (d *decoder) item() (item api.Item) {
	defer func() {
		switch cause := recover().(type) {
		case nil:
		case missing:
			item = api.Item{Kind: api.Truncated}
		default:
			// A mistake of the program must not look like a missing byte.
			panic(cause)
		}
		item.Raw = d.taken()
	}()
	return d.whole()
}

// whole returns the first item without its Raw, which are the bytes that are
// taken then.
func (d *decoder) whole() api.Item {
	for {
		e, kind := table.At(d.page, d.opcode())
		switch kind {
		case table.Legal:
			return d.instruction(e)
		case table.Prefix:
			// Up to here, only prefixes are taken.
			d.page, _ = table.PageOf(d.taken()...)
		case table.Hole:
			return api.Item{Kind: api.Hole}
		default:
			d.keepFirst()
			return api.Item{Kind: api.Stray}
		}
	}
}

// opcode takes the opcode, and the displacement in front of it.
func (d *decoder) opcode() byte {
	d.need = d.at + 1
	if d.isDisplacementInFront() {
		d.need++
		d.displacement = d.signed()
	}
	return d.next()
}

func (d *decoder) isDisplacementInFront() bool {
	return d.page == table.DDCB || d.page == table.FDCB
}

// instruction takes the bytes that follow the opcode of an entry.
func (d *decoder) instruction(e table.Entry) api.Item {
	d.need = table.Size(e)
	behind := e.Extra
	if d.isDisplacementInFront() {
		behind = strings.TrimPrefix(behind, "d")
	}
	for _, letter := range behind {
		d.take(letter)
	}
	// Numbers made of bytes are in the ranges of their letters.
	i, _ := search.Fill(e, d.displacement, d.number)
	return api.Item{Kind: api.Code1, Instr: i, Alias: e.Alias}
}

// take takes the bytes of a letter of Extra.
func (d *decoder) take(letter rune) {
	switch letter {
	case 'd':
		d.displacement = d.signed()
	case 'e':
		d.number = d.signed()
	case 'n':
		d.number = int(d.next())
	case 'w':
		d.number = d.word()
	}
}
