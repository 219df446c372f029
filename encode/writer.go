package encode

import (
	"strings"

	"breadboard/num"
	"breadboard/table"
)

// writer puts the bytes of an entry together.
type writer struct {
	table.Entry
	d, n  int // the displacement and the number
	bytes []byte
}

// write writes the entry as a whole.
func (w *writer) write() {
	w.bytes = append(w.bytes, table.Prefixes(w.Page)...)
	behind := w.Extra
	switch w.Page {
	case table.DDCB, table.FDCB:
		w.writeDisplacement()
		behind = strings.TrimPrefix(behind, "d")
	}
	w.bytes = append(w.bytes, w.Op)
	parts := w.parts()
	for _, letter := range behind {
		// The table has no other letters, but the field of a struct can.
		if write, ok := parts[letter]; ok {
			write()
		}
	}
}

// parts returns what writes the bytes of each letter of Extra.
func (w *writer) parts() map[rune]func() {
	return map[rune]func(){
		'd': w.writeDisplacement,
		'e': w.writeByte,
		'n': w.writeByte,
		'w': w.writeWord,
	}
}

func (w *writer) writeDisplacement() { w.put(w.d) }

func (w *writer) writeByte() { w.put(w.n) }

// writeWord puts the low byte first, as the processor reads it.
func (w *writer) writeWord() { w.put(w.n, w.n>>8) }

// put adds the low bytes of numbers.
func (w *writer) put(l ...int) { w.bytes = append(w.bytes, num.Low(l...)...) }
