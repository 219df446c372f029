package image_test

import (
	"bytes"
	"math"
	"math/rand"
	"slices"
	"testing"

	"breadboard/api"
	"breadboard/image"
)

// strange has numbers that are no addresses, also some that would be after a
// wraparound.
var strange = []int{-1, -2, -65535, -65536, -65537, 65536, 65537, 65541, 131072, math.MaxInt32, math.MinInt32, math.MaxInt, math.MinInt}

func put(t *testing.T, m *image.Image, want api.Code, addr int, b ...byte) {
	t.Helper()
	if code := m.Put(addr, b...); code != want {
		t.Errorf("Put of %d bytes at %d returns %v; want %v", len(b), addr, code, want)
	}
}

// of returns an image with the given runs, without the function Of.
func of(t *testing.T, l ...image.Run) *image.Image {
	t.Helper()
	m := image.New()
	for _, r := range l {
		put(t, m, api.OK, r.Addr, r.Data...)
	}
	return m
}

func run(addr int, b ...byte) image.Run { return image.Run{Addr: addr, Data: b} }

func sameRun(a, b image.Run) bool { return a.Addr == b.Addr && bytes.Equal(a.Data, b.Data) }

// wantContents tests Get at all addresses, Len and Runs.
func wantContents(t *testing.T, m *image.Image, want map[int]byte) {
	t.Helper()
	var runs []image.Run
	for addr := range api.Space {
		b, ok := m.Get(addr)
		w, defined := want[addr]
		if b != w || ok != defined {
			t.Fatalf("Get(%d) = %d, %v; want %d, %v", addr, b, ok, w, defined)
		}
		if !defined {
			continue
		}
		if _, follows := want[addr-1]; !follows {
			runs = append(runs, run(addr))
		}
		last := &runs[len(runs)-1]
		last.Data = append(last.Data, w)
	}
	if m.Len() != len(want) {
		t.Fatalf("Len() = %d; want %d", m.Len(), len(want))
	}
	if got := m.Runs(); !slices.EqualFunc(got, runs, sameRun) {
		t.Fatalf("Runs() = %v; want %v", got, runs)
	}
}

// P2.1
func TestNew(t *testing.T) {
	a, b := image.New(), image.New()
	if a == nil || b == nil {
		t.Fatal("New returns nil")
	}
	wantContents(t, a, nil)
	put(t, a, api.OK, 7, 1, 2)
	wantContents(t, b, nil)
	wantContents(t, image.New(), nil)
}

// P2.1
func TestPutDefinesBytes(t *testing.T) {
	m := image.New()
	put(t, m, api.OK, 5, 1, 2)
	put(t, m, api.OK, 7, 3)
	put(t, m, api.ErrOverlap, 6, 9)
	put(t, m, api.OK, 100, 0, 255, 0)
	wantContents(t, m, map[int]byte{5: 1, 6: 2, 7: 3, 100: 0, 101: 255, 102: 0})
}

// P2.1: the first and the last address, and all of them at once.
func TestPutAtTheEnds(t *testing.T) {
	m := image.New()
	put(t, m, api.OK, 0, 4)
	put(t, m, api.OK, 65535, 5)
	put(t, m, api.OK, 65533, 6, 7)
	wantContents(t, m, map[int]byte{0: 4, 65533: 6, 65534: 7, 65535: 5})
	full := image.New()
	all := map[int]byte{}
	b := make([]byte, 65536)
	for i := range b {
		b[i] = byte(i * 7)
		all[i] = b[i]
	}
	put(t, full, api.OK, 0, b...)
	wantContents(t, full, all)
	put(t, full, api.ErrOverlap, 0, 1)
	put(t, full, api.ErrOverlap, 65535, 1)
	put(t, full, api.OK, 65535)
	wantContents(t, full, all)
}

// P2.1: no code hides another one that precedes it, and a Put that fails
// changes nothing.
func TestPutThatFails(t *testing.T) {
	m := of(t, run(0, 1), run(10, 2, 3, 4), run(65534, 5))
	want := map[int]byte{0: 1, 10: 2, 11: 3, 12: 4, 65534: 5}
	many := make([]byte, 65537)
	for _, addr := range strange {
		put(t, m, api.ErrRange, addr, 1)
		put(t, m, api.ErrRange, addr, many...)
		put(t, m, api.ErrRange, addr)
	}
	put(t, m, api.ErrWrap, 65535, 1, 2)
	put(t, m, api.ErrWrap, 65534, 1, 2, 3)
	put(t, m, api.ErrWrap, 65533, 1, 2, 3, 4)
	put(t, m, api.ErrWrap, 5, many[:65532]...)
	put(t, m, api.ErrWrap, 1, many[:65536]...)
	put(t, m, api.ErrWrap, 0, many...)
	put(t, m, api.ErrOverlap, 0, many[:65536]...)
	put(t, m, api.ErrOverlap, 5, many[:65531]...)
	put(t, m, api.ErrOverlap, 65534, 5)
	put(t, m, api.ErrOverlap, 65534, 5, 6)
	put(t, m, api.ErrOverlap, 65533, 5, 6, 7)
	put(t, m, api.ErrOverlap, 0, 1)
	wantContents(t, m, want)
	put(t, m, api.OK, 65535, 9)
	put(t, m, api.OK, 1, 8, 7)
	want[65535], want[1], want[2] = 9, 8, 7
	wantContents(t, m, want)
}

// P2.1: a single address decides about an overlap, wherever it lies, and also
// if its byte is 0 or the same.
func TestPutOverlaps(t *testing.T) {
	for _, b := range []byte{0, 1, 9} {
		m := of(t, run(20, b))
		for from := 15; from <= 25; from++ {
			for n := 1; n <= 8; n++ {
				want := api.OK
				if from <= 20 && 20 < from+n {
					want = api.ErrOverlap
				}
				c := m.Clone()
				put(t, c, want, from, bytes.Repeat([]byte{9}, n)...)
				contents := map[int]byte{20: b}
				for i := range n {
					if want == api.OK {
						contents[from+i] = 9
					}
				}
				if c.Len() != len(contents) {
					t.Fatalf("%d addresses after a Put of %d bytes at %d", c.Len(), n, from)
				}
				for addr := 10; addr < 40; addr++ {
					if got, _ := c.Get(addr); got != contents[addr] {
						t.Fatalf("%d at %d after a Put of %d bytes at %d", got, addr, n, from)
					}
				}
			}
		}
	}
}

// P2.1
func TestPutWithoutBytes(t *testing.T) {
	m := of(t, run(3, 1))
	for _, addr := range []int{0, 2, 3, 4, 65535} {
		put(t, m, api.OK, addr)
		put(t, m, api.OK, addr, []byte{}...)
	}
	put(t, m, api.ErrRange, 65536)
	put(t, m, api.ErrRange, -1)
	wantContents(t, m, map[int]byte{3: 1})
}

// P2.1: Put neither changes nor keeps its bytes, nor reads behind them.
func TestPutLeavesItsBytes(t *testing.T) {
	b := []byte{1, 2, 3, 4}
	m := image.New()
	put(t, m, api.OK, 8, b[:2]...)
	if !bytes.Equal(b, []byte{1, 2, 3, 4}) {
		t.Errorf("the bytes are %v", b)
	}
	b[0], b[1], b[2] = 50, 60, 70
	wantContents(t, m, map[int]byte{8: 1, 9: 2})
	put(t, m, api.OK, 10, 3)
	if !bytes.Equal(b, []byte{50, 60, 70, 4}) {
		t.Errorf("the bytes are %v", b)
	}
}

// P2.2
func TestGetWhereNothingIs(t *testing.T) {
	m := of(t, run(0, 7), run(65535, 8), run(5, 9))
	for _, addr := range slices.Concat(strange, []int{1, 4, 6, 65534}) {
		if b, ok := m.Get(addr); b != 0 || ok {
			t.Errorf("Get(%d) = %d, %v", addr, b, ok)
		}
	}
}

// P2.2: runs do not depend on the order of the calls of Put.
func TestRunsAreLongestRanges(t *testing.T) {
	parts := []image.Run{run(3, 1, 2), run(5, 3), run(6, 4, 5), run(8), run(9, 6), run(0, 7), run(65535, 8), run(65534, 9)}
	want := []image.Run{run(0, 7), run(3, 1, 2, 3, 4, 5), run(9, 6), run(65534, 9, 8)}
	r := rand.New(rand.NewSource(1))
	for range 20 {
		if got := of(t, parts...).Runs(); !slices.EqualFunc(got, want, sameRun) {
			t.Fatalf("the runs of %v are %v", parts, got)
		}
		r.Shuffle(len(parts), func(i, j int) { parts[i], parts[j] = parts[j], parts[i] })
	}
}

// P2.2: the first and the last address are no neighbors.
func TestRunsDoNotWrap(t *testing.T) {
	m := of(t, run(65535, 1), run(0, 2))
	if got := m.Runs(); !slices.EqualFunc(got, []image.Run{run(0, 2), run(65535, 1)}, sameRun) {
		t.Errorf("the runs are %v", got)
	}
}

// P2.2: the results of Runs share no memory with the image or each other.
func TestRunsAreCopies(t *testing.T) {
	m := of(t, run(3, 1, 2), run(6, 3), run(9, 4))
	want := map[int]byte{3: 1, 4: 2, 6: 3, 9: 4}
	a, b := m.Runs(), m.Runs()
	for i := range a {
		clear(a[i].Data)
		a[i].Addr = 77
		a[i].Data = append(a[i].Data, 99, 99, 99, 99)
	}
	wantContents(t, m, want)
	if !slices.EqualFunc(b, []image.Run{run(3, 1, 2), run(6, 3), run(9, 4)}, sameRun) {
		t.Errorf("the runs are %v", b)
	}
	put(t, m, api.OK, 5, 8)
	if len(b) != 3 || len(b[0].Data) != 2 {
		t.Errorf("the runs are %v after a Put", b)
	}
}

// P2.1, P2.2, P2.3: Len, Get and Runs agree with a map after any calls of Put.
func TestImageAgainstMap(t *testing.T) {
	r := rand.New(rand.NewSource(2))
	for range 20 {
		m, want := image.New(), map[int]byte{}
		base := []int{0, 1000, 65536 - 300}[r.Intn(3)]
		for range 40 {
			addr, b := base+r.Intn(310)-5, make([]byte, r.Intn(12))
			r.Read(b)
			code := api.OK
			for i := range b {
				if _, ok := want[addr+i]; ok && code == api.OK {
					code = api.ErrOverlap
				}
			}
			if addr+len(b) > 65536 {
				code = api.ErrWrap
			}
			if addr < 0 || addr > 65535 {
				code = api.ErrRange
			}
			put(t, m, code, addr, b...)
			for i, x := range b {
				if code == api.OK {
					want[addr+i] = x
				}
			}
		}
		wantContents(t, m, want)
		wantContents(t, m.Clone(), want)
	}
}

// P2.3: a change of one of two images leaves the other one.
func TestClone(t *testing.T) {
	m := of(t, run(3, 1), run(65535, 2))
	c := m.Clone()
	wantContents(t, c, map[int]byte{3: 1, 65535: 2})
	put(t, m, api.OK, 4, 5)
	put(t, c, api.OK, 2, 6)
	put(t, c, api.OK, 4, 7)
	d := c.Clone()
	wantContents(t, m, map[int]byte{3: 1, 4: 5, 65535: 2})
	wantContents(t, c, map[int]byte{2: 6, 3: 1, 4: 7, 65535: 2})
	put(t, c, api.ErrOverlap, 3, 1)
	put(t, d, api.OK, 0, 1)
	wantContents(t, c, map[int]byte{2: 6, 3: 1, 4: 7, 65535: 2})
	wantContents(t, image.New().Clone(), nil)
}

// P2.3
func TestSame(t *testing.T) {
	for _, c := range []struct {
		a, b *image.Image
		want bool
	}{
		{of(t), of(t), true},
		{nil, nil, true},
		{nil, of(t), true},
		{nil, of(t, run(0, 0)), false},
		{of(t), of(t, run(0, 0)), false},
		{of(t), of(t, run(65535, 0)), false},
		{of(t, run(5, 1)), of(t, run(5, 1)), true},
		{of(t, run(5, 1)), of(t, run(5, 2)), false},
		{of(t, run(5, 1)), of(t, run(6, 1)), false},
		{of(t, run(5, 0)), of(t, run(6, 0)), false},
		{of(t, run(5, 1)), of(t, run(5, 1, 0)), false},
		{of(t, run(5, 1, 2), run(9, 3)), of(t, run(9, 3), run(6, 2), run(5, 1)), true},
		{of(t, run(5, 1, 2, 3)), of(t, run(5, 1), run(7, 3)), false},
		{of(t, run(5, 1, 0, 3)), of(t, run(5, 1), run(7, 3)), false},
		{of(t, run(5, 1), run(7, 3)), of(t, run(5, 1), run(8, 3)), false},
		{of(t, run(5, 1, 2), run(9, 1)), of(t, run(5, 1), run(9, 1, 2)), false},
		{of(t, run(5, 1, 2)), of(t, run(5, 2, 1)), false},
		{of(t, run(0, 1), run(65535, 1)), of(t, run(0, 1), run(65535, 2)), false},
		{of(t, run(0, make([]byte, 65536)...)), of(t, run(0, make([]byte, 65536)...)), true},
		{of(t, run(0, make([]byte, 65536)...)), of(t, run(0, make([]byte, 65535)...)), false},
	} {
		if got := image.Same(c.a, c.b); got != c.want {
			t.Errorf("Same of %v and %v = %v", c.a.Runs(), c.b.Runs(), got)
		}
		if got := image.Same(c.b, c.a); got != c.want {
			t.Errorf("Same of %v and %v = %v", c.b.Runs(), c.a.Runs(), got)
		}
		if !image.Same(c.a, c.a) || !image.Same(c.a, c.a.Clone()) {
			t.Errorf("%v is not the same as itself", c.a.Runs())
		}
	}
}

// P2.3: an image that has refused bytes is the same as before.
func TestSameAfterPutThatFails(t *testing.T) {
	m, c := of(t, run(5, 1)), of(t, run(5, 1))
	put(t, m, api.ErrOverlap, 3, 1, 2, 3)
	put(t, m, api.ErrWrap, 65535, 1, 2)
	put(t, m, api.ErrRange, -1, 1, 2)
	if !image.Same(m, c) {
		t.Errorf("the image has %v", m.Runs())
	}
}

// P2.4
func TestOf(t *testing.T) {
	for _, c := range []struct {
		l    []image.Run
		want map[int]byte
	}{
		{nil, nil},
		{[]image.Run{run(5)}, nil},
		{[]image.Run{run(9, 1, 2), run(65535, 3), run(0, 4), run(8, 5)}, map[int]byte{0: 4, 8: 5, 9: 1, 10: 2, 65535: 3}},
		{[]image.Run{run(9, 1, 2), run(10), run(65535)}, map[int]byte{9: 1, 10: 2}},
	} {
		m, code := image.Of(c.l...)
		if m == nil || code != api.OK {
			t.Fatalf("Of(%v) = %v, %v", c.l, m, code)
		}
		wantContents(t, m, c.want)
	}
}

// P2.4: the first run that cannot be put in decides about the code.
func TestOfThatFails(t *testing.T) {
	overlap, wrap, wrong := run(5, 1), run(65535, 1, 2), run(-1, 1)
	for _, c := range []struct {
		l    []image.Run
		want api.Code
	}{
		{[]image.Run{wrong}, api.ErrRange},
		{[]image.Run{wrap}, api.ErrWrap},
		{[]image.Run{overlap, overlap}, api.ErrOverlap},
		{[]image.Run{run(5, 2, 3), run(9, 1), run(4, 1, 1)}, api.ErrOverlap},
		{[]image.Run{run(1, 1), overlap, overlap, wrap, wrong}, api.ErrOverlap},
		{[]image.Run{overlap, wrap, wrong, overlap}, api.ErrWrap},
		{[]image.Run{overlap, wrong, overlap, wrap}, api.ErrRange},
		{[]image.Run{overlap, overlap, run(90, 1)}, api.ErrOverlap},
		{[]image.Run{run(65536)}, api.ErrRange},
		{[]image.Run{run(1, 1), run(-1), run(2, 1)}, api.ErrRange},
		{[]image.Run{run(math.MaxInt, 1)}, api.ErrRange},
	} {
		if m, code := image.Of(c.l...); m != nil || code != c.want {
			t.Errorf("Of(%v) = %v, %v; want nothing and %v", c.l, m.Runs(), code, c.want)
		}
	}
}

// P2.4: Of neither changes nor keeps its runs.
func TestOfLeavesItsRuns(t *testing.T) {
	l := []image.Run{run(9, 1, 2), run(3, 4)}
	m, _ := image.Of(l...)
	if !slices.EqualFunc(l, []image.Run{run(9, 1, 2), run(3, 4)}, sameRun) {
		t.Errorf("the runs are %v", l)
	}
	clear(l[0].Data)
	l[1] = run(7, 7)
	wantContents(t, m, map[int]byte{3: 4, 9: 1, 10: 2})
}

// P2.5
func TestOfInvertsRuns(t *testing.T) {
	r := rand.New(rand.NewSource(3))
	for range 200 {
		m := image.New()
		for range r.Intn(50) {
			b := make([]byte, r.Intn(5))
			r.Read(b)
			m.Put(r.Intn(2)*(65536-128)+r.Intn(128), b...)
		}
		runs := m.Runs()
		n, code := image.Of(runs...)
		if code != api.OK || !image.Same(m, n) {
			t.Fatalf("Of(%v) = %v, %v", runs, n.Runs(), code)
		}
		for i := 1; i < len(runs); i++ {
			between := runs[i-1].Addr + len(runs[i-1].Data)
			if _, ok := m.Get(between); ok || between >= runs[i].Addr {
				t.Fatalf("nothing lies between the runs %v and %v", runs[i-1], runs[i])
			}
		}
	}
}

// A nil image is like an empty one, but nothing can be put into it.
func TestNilImage(t *testing.T) {
	var m *image.Image
	put(t, m, api.ErrNil, 0)
	put(t, m, api.ErrNil, 5, 1)
	put(t, m, api.ErrNil, -1, 1)
	put(t, m, api.ErrNil, 65536)
	put(t, m, api.ErrNil, 65535, 1, 2)
	for _, addr := range slices.Concat(strange, []int{0, 5, 65535}) {
		if b, ok := m.Get(addr); b != 0 || ok {
			t.Errorf("Get(%d) = %d, %v", addr, b, ok)
		}
	}
	if m.Len() != 0 || len(m.Runs()) != 0 {
		t.Errorf("%d addresses, and the runs %v", m.Len(), m.Runs())
	}
	c := m.Clone()
	if c == nil {
		t.Fatal("Clone returns nil")
	}
	wantContents(t, c, nil)
	put(t, c, api.OK, 5, 1)
	wantContents(t, c, map[int]byte{5: 1})
	wantContents(t, m.Clone(), nil)
}
