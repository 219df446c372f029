package flow

import (
	"slices"

	"breadboard/image"
)

// set is a set of addresses.
type set map[int]bool

// sorted returns the addresses of a set in ascending order.
func (s set) sorted() []int {
	var l []int
	for addr := range s {
		l = append(l, addr)
	}
	slices.Sort(l)
	return l
}

// waiting is a list of addresses that are still to be visited.
type waiting struct{ addresses []int }

// add puts addresses into the list, whether they have been visited or not.
func (w *waiting) add(l ...int) { w.addresses = append(w.addresses, l...) }

// take takes an address out of the list, and returns false if it is empty.
func (w *waiting) take() (int, bool) {
	last := len(w.addresses) - 1
	if last < 0 {
		return 0, false
	}
	addr := w.addresses[last]
	w.addresses = w.addresses[:last]
	return addr, true
}

// walker visits the items of an image that can be reached.
type walker struct {
	waiting
	image   *image.Image
	visited set
}

// visit marks the item at an address and lets those after it wait.
func (w *walker) visit(addr int) {
	if w.visited[addr] {
		return
	}
	if item, ok := Item(w.image, addr); ok {
		w.visited[addr] = true
		w.add(Next(addr, item)...)
	}
}

// reached returns the addresses that are reached from some addresses.
func reached(m *image.Image, starts []int) set {
	w := walker{image: m, visited: set{}}
	w.add(starts...)
	for addr, ok := w.take(); ok; addr, ok = w.take() {
		w.visit(addr)
	}
	return w.visited
}
