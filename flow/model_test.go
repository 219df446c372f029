package flow_test

import (
	"math/rand"
	"slices"
	"testing"

	"breadboard/api"
	"breadboard/decode"
	"breadboard/encode"
	"breadboard/flow"
	"breadboard/image"
	"breadboard/instr"
	"breadboard/table"
)

// modelEffect returns the effect of an instruction by its bytes: its kind,
// whether it acts sometimes only, and its target at an address, or none.
func modelEffect(addr int, b []byte) (kind int, sometimes bool, target int) {
	word := func() int { return int(b[1]) | int(b[2])<<8 }
	distance := func() int { return wrapped(addr, int(int8(b[1]))) }
	op := b[0]
	switch {
	case op == 0x10: // DJNZ e
		return flow.Jump, true, distance()
	case op == 0x18: // JR e
		return flow.Jump, false, distance()
	case op&0xE7 == 0x20: // JR k,e
		return flow.Jump, true, distance()
	case op == 0xC3: // JP w
		return flow.Jump, false, word()
	case op&0xC7 == 0xC2: // JP c,w
		return flow.Jump, true, word()
	case op == 0xCD: // CALL w
		return flow.Call, false, word()
	case op&0xC7 == 0xC4: // CALL c,w
		return flow.Call, true, word()
	case op&0xC7 == 0xC7: // RST t
		return flow.Call, false, int(op & 0x38)
	case op == 0xC9: // RET
		return flow.Return, false, none
	case op&0xC7 == 0xC0: // RET c
		return flow.Return, true, none
	case op == 0xED && b[1]&0xC7 == 0x45: // RETN and RETI
		return flow.Return, false, none
	case op == 0x76 || op == 0xE9: // HALT and JP (HL)
		return flow.Away, false, none
	case (op == 0xDD || op == 0xFD) && b[1] == 0xE9: // JP (IX) and JP (IY)
		return flow.Away, false, none
	}
	return flow.Plain, false, none
}

// modelNext returns the addresses after an item by its bytes.
func modelNext(addr int, x api.Item) []int {
	kind, sometimes, target := flow.Plain, false, none
	if x.Kind == api.Code1 {
		kind, sometimes, target = modelEffect(addr, x.Raw)
	}
	after := addr + len(x.Raw)
	goesOn := sometimes || kind == flow.Plain || kind == flow.Call
	var l []int
	if x.Kind != api.Truncated && goesOn && after < 65536 {
		l = append(l, after)
		if target == after {
			target = none
		}
	}
	if target != none {
		l = append(l, target)
	}
	return l
}

// model knows the items of an image and the addresses after them.
type model struct {
	items map[int]api.Item
	next  map[int][]int
}

func newModel(m *image.Image) model {
	w := model{map[int]api.Item{}, map[int][]int{}}
	for _, r := range m.Runs() {
		for k := range r.Data {
			x := decode.First(r.Data[k:])
			w.items[r.Addr+k] = x
			w.next[r.Addr+k] = modelNext(r.Addr+k, x)
		}
	}
	return w
}

// reach returns the addresses that are reached, which it finds by asking for
// all addresses again and again until no further one is.
func (w model) reach(starts []int) []int {
	var l []int
	isReached := map[int]bool{}
	add := func(addr int) {
		if _, ok := w.items[addr]; ok && !isReached[addr] {
			isReached[addr] = true
			l = append(l, addr)
		}
	}
	for _, addr := range starts {
		add(addr)
	}
	for before := -1; before != len(l); {
		before = len(l)
		for _, addr := range slices.Clone(l) {
			for _, after := range w.next[addr] {
				add(after)
			}
		}
	}
	slices.Sort(l)
	return l
}

// targets returns the targets of some addresses, looked for from the first
// address of the space to the last one.
func (w model) targets(reached []int) []int {
	isTarget := [65536]bool{}
	for _, addr := range reached {
		if x := w.items[addr]; x.Kind == api.Code1 {
			if _, _, target := modelEffect(addr, x.Raw); target != none {
				isTarget[target] = true
			}
		}
	}
	var l []int
	for addr, is := range isTarget {
		if _, ok := w.items[addr]; ok && is {
			l = append(l, addr)
		}
	}
	return l
}

// checkBytes compares what the package says of the first item of some bytes,
// and of its instruction, with the model.
func checkBytes(t *testing.T, addr int, b []byte) {
	t.Helper()
	x := decode.First(b)
	if x.Kind == api.Code1 {
		kind, sometimes, target := modelEffect(addr, x.Raw)
		checkEffect(t, x.Instr, addr, kind, sometimes, target)
	}
	if got, want := flow.Next(addr, x), modelNext(addr, x); !slices.Equal(got, want) {
		t.Errorf("Next(%d, % X) = %v, want %v", addr, x.Raw, got, want)
	}
	stopIfFailed(t)
}

// P14.1 and P14.2: all opcodes of all pages, and all beginnings of them.
func TestAllOpcodes(t *testing.T) {
	t.Parallel()
	for _, prefix := range []string{"", "\xCB", "\xED", "\xDD", "\xFD", "\xDD\xCB\x05", "\xFD\xCB\xFE"} {
		for op := range 256 {
			b := append([]byte(prefix), byte(op), 0x34, 0x12)
			for n := 1; n <= len(b); n++ {
				checkBytes(t, 1000, b[:n])
			}
			for _, addr := range []int{0, 65531, 65532, 65533, 65534, 65535} {
				checkBytes(t, addr, b)
			}
		}
	}
}

// P14.1 and P14.2: all first bytes with numbers and addresses of all sizes.
func TestAllNumbers(t *testing.T) {
	t.Parallel()
	r := rand.New(rand.NewSource(14))
	for op := range 256 {
		for range 60 {
			addr := r.Intn(65536)
			if r.Intn(2) == 0 {
				addr = (addr%300 + 65536 - 150) % 65536
			}
			b := []byte{byte(op), byte(r.Intn(256)), byte(r.Intn(256)), byte(r.Intn(256))}
			checkBytes(t, addr, b)
			// The target is the address of the item, or one beside it.
			for distance := -2; distance <= 3; distance++ {
				b[1], b[2] = byte(addr+distance), byte((addr+distance)>>8)
				checkBytes(t, addr, b)
				b[1] = byte(distance)
				checkBytes(t, addr, b)
			}
		}
	}
}

// checkInstr compares what the package says of an instruction with what the
// model says of its encoding; those without one are not legal.
func checkInstr(t *testing.T, addr int, i api.Instr) {
	t.Helper()
	kind, sometimes, target := flow.Plain, false, none
	b, code := encode.Encode(i)
	if code == api.OK {
		kind, sometimes, target = modelEffect(addr, b)
	}
	checkEffect(t, i, addr, kind, sometimes, target)
	stopIfFailed(t)
}

// P14.1: all mnemonics and words beside them with no, one and two operands of
// all kinds.
func TestAllMnemonics(t *testing.T) {
	t.Parallel()
	operands := []api.Operand{
		imm(0), imm(8), imm(56), imm(1000), imm(65535), imm(-1), imm(-32769), imm(65536), mem(8), rel(0), rel(-128), rel(128), cond(api.NZ), cond(api.CY), cond(api.PE), cond(api.M), cond(8), ind(api.HL), ind(api.IX), ind(api.BC), ind(api.IndC), idx(api.IY, 0), reg8(api.C), reg8(api.A), reg16(api.HL), reg16(api.DE), {Kind: api.RX, Reg: api.IXH}, {Kind: api.Ctl}, {}, {Kind: 99},
	}
	for _, op := range append(instr.Ops(), "", "jp", "Jr", "djnz", "ret", "halt", "JPX", "J", "RETX", "call", "rst", "HALT ", "DEFB") {
		checkInstr(t, 1000, of(op))
		for _, o := range operands {
			checkInstr(t, 65535, of(op, o))
			checkInstr(t, 3, of(op, o))
		}
		if !slices.Contains([]string{"JP", "JR", "DJNZ", "CALL", "RST", "RET", "RETI", "RETN", "HALT", "LD", "NOP", "jp"}, op) {
			continue
		}
		for _, o := range operands {
			for _, p := range operands {
				checkInstr(t, 1000, of(op, o, p))
				checkInstr(t, 1000, of(op, cond(api.NZ), o, p))
			}
		}
	}
}

// P14.1: the instructions of all entries of the table.
func TestAllEntries(t *testing.T) {
	t.Parallel()
	for _, e := range table.Entries() {
		checkInstr(t, 1000, e.Instr)
		checkInstr(t, 65534, e.Instr)
	}
}

// randomProgram returns bytes for an address, many of which are jumps to near
// addresses.
func randomProgram(r *rand.Rand, base, size int) []byte {
	pick := func(choices string) byte { return choices[r.Intn(len(choices))] }
	var b []byte
	for len(b) < size {
		switch r.Intn(8) {
		case 0, 1:
			near := base + r.Intn(size)
			b = append(b, pick("\xC3\xC3\xCA\xD2\xFA\xCD\xC4\xFC"), byte(near), byte(near>>8))
		case 2, 3:
			b = append(b, pick("\x18\x18\x20\x28\x30\x38\x10"), byte(r.Intn(24)-12))
		case 4:
			b = append(b, pick("\xC9\xC0\xD8\xC7\xCF\xFF\xE9\x76"))
		case 5:
			b = append(b, pick("\xDD\xFD\xED\xCB"), pick("\x00\xE9\x45\x4D\x5D\x63\xCB\x36\xC3"))
		case 6:
			b = append(b, pick("\x00\x3E\x21\x01\x12\x7F"))
		default:
			b = append(b, byte(r.Intn(256)))
		}
	}
	return b[:size]
}

// randomImage returns an image with a program from an address on, which can go
// on at 0, and in which some cells are not defined.
func randomImage(r *rand.Rand, base, size int) *image.Image {
	m := image.New()
	for k, x := range randomProgram(r, base, size) {
		if r.Intn(25) > 0 {
			m.Put((base+k)%65536, x)
		}
	}
	return m
}

// randomStarts returns a few addresses of an image, or near it.
func randomStarts(r *rand.Rand, base, size int) []int {
	var l []int
	for range r.Intn(4) {
		l = append(l, (base+r.Intn(size+2)+65535)%65536)
	}
	if r.Intn(8) == 0 {
		l = append(l, noAddresses[r.Intn(len(noAddresses))])
	}
	return l
}

// isPart reports whether a list has all elements of another one.
func isPart(part, l []int) bool {
	return !slices.ContainsFunc(part, func(n int) bool { return !slices.Contains(l, n) })
}

// union returns the elements of both lists in ascending order, each once.
func union(a, b []int) []int {
	l := slices.Concat(a, b)
	slices.Sort(l)
	return slices.Compact(l)
}

// P14.3 to P14.5: random images against the model, and what follows: more
// addresses reach at least as many, all of which one of them reaches.
func TestRandomImages(t *testing.T) {
	t.Parallel()
	r := rand.New(rand.NewSource(144))
	jumps := 0
	for range 800 {
		base, size := []int{0, 0, 16, 700, 32760, 65480, 65530, 65500}[r.Intn(8)], 1+r.Intn(60)
		m := randomImage(r, base, size)
		before, w := m.Clone(), newModel(m)
		first, second := randomStarts(r, base, size), randomStarts(r, base, size)
		var reached [][]int
		for _, starts := range [][]int{first, second, slices.Concat(first, second)} {
			want := w.reach(starts)
			targets := w.targets(want)
			checkReach(t, "random", m, starts, want, targets)
			reached = append(reached, flow.Reach(m, starts...))
			if !isPart(targets, want) {
				t.Errorf("targets %v are not among %v", targets, want)
			}
			jumps += len(targets)
		}
		if !slices.Equal(reached[2], union(reached[0], reached[1])) {
			t.Errorf("%v and %v together are %v", reached[0], reached[1], reached[2])
		}
		for addr := base - 2; addr < base+size+2; addr++ {
			x, ok := flow.Item(m, addr)
			if want, there := w.items[addr]; ok != there || !decode.Same(x, want) {
				t.Errorf("Item(%d) = %v, %t, want %v", addr, x, ok, want)
			}
		}
		if !image.Same(m, before) {
			t.Error("the image has changed")
		}
		stopIfFailed(t)
	}
	// Otherwise most of the images would say nothing.
	if jumps < 3000 {
		t.Errorf("the random images have %d targets only", jumps)
	}
}

// P14.4: random images with thousands of cells.
func TestLargeRandomImages(t *testing.T) {
	t.Parallel()
	r := rand.New(rand.NewSource(1444))
	for range 4 {
		base := r.Intn(65536)
		m := image.New()
		for k := range 20000 {
			if r.Intn(50) > 0 {
				m.Put((base+k)%65536, byte(r.Intn(256)))
			}
		}
		w := newModel(m)
		for n := range 4 {
			var starts []int
			for range 1 + 20*n {
				starts = append(starts, (base+r.Intn(20000))%65536)
			}
			want := w.reach(starts)
			checkReach(t, "random", m, starts, want, w.targets(want))
			stopIfFailed(t)
		}
	}
}
