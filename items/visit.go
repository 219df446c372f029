package items

import (
	"iter"

	"breadboard/api"
	"breadboard/decode"
)

// itemsOf visits the items of some bytes in order, and reads no more of them
// than are visited.
func itemsOf(b []byte) iter.Seq[api.Item] {
	return func(yield func(api.Item) bool) {
		item, next, ok := decode.At(b, 0)
		for ok && yield(item) {
			item, next, ok = decode.At(b, next)
		}
	}
}

// placed visits items together with their offsets.
func placed(l []api.Item) iter.Seq2[int, api.Item] {
	return func(yield func(int, api.Item) bool) {
		offset := 0
		for _, item := range l {
			if !yield(offset, item) {
				return
			}
			offset += len(item.Raw)
		}
	}
}

// ofKind visits the items of a kind.
func ofKind(kind int, l []api.Item) iter.Seq[api.Item] {
	return func(yield func(api.Item) bool) {
		for _, item := range l {
			if item.Kind == kind && !yield(item) {
				return
			}
		}
	}
}

// comparison compares lists of items by an equality of single ones.
type comparison struct {
	equal func(a, b api.Item) bool
}

// holds reports whether the items that are visited are those of a list.
func (c comparison) holds(visited iter.Seq[api.Item], l []api.Item) bool {
	n := 0
	for item := range visited {
		if n == len(l) || !c.equal(item, l[n]) {
			return false
		}
		n++
	}
	return n == len(l)
}
