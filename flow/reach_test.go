package flow_test

import (
	"bytes"
	"fmt"
	"slices"
	"sync"
	"testing"

	"breadboard/api"
	"breadboard/flow"
	"breadboard/image"
)

// short returns a text of addresses that is not too long for a report.
func short(l []int) string {
	if len(l) > 50 {
		return fmt.Sprintf("%d addresses: %v and so on", len(l), l[:50])
	}
	return fmt.Sprint(l)
}

// checkReach compares Reach and Targets of an image, and what follows from
// them.
func checkReach(t *testing.T, name string, m *image.Image, starts, reach, targets []int) {
	t.Helper()
	got := flow.Reach(m, starts...)
	if !slices.Equal(got, reach) {
		t.Errorf("Reach(%s, %s) = %s, want %s", name, short(starts), short(got), short(reach))
	}
	if again := flow.Reach(m, got...); !slices.Equal(again, got) {
		t.Errorf("Reach(%s) from %s is %s", name, short(got), short(again))
	}
	for _, l := range [][]int{starts, got} {
		if got := flow.Targets(m, l...); !slices.Equal(got, targets) {
			t.Errorf("Targets(%s, %s) = %s, want %s", name, short(l), short(got), short(targets))
		}
	}
}

// reach has the runs of images, some addresses, and what is reached from them.
var reach = []struct {
	m                      string
	starts, reach, targets []int
}{
	// No addresses, undefined ones and such that there are not
	{"0: 00 00", nil, nil, nil}, {"0: 00 00", []int{2}, nil, nil}, {"0: 00 00", noAddresses, nil, nil}, {"", []int{0, 1, 65535}, nil, nil}, {"5: C9", []int{4, 6, 0, 65535, -1}, nil, nil}, {"5: C9", []int{4, 5, 6}, []int{5}, nil},
	// Straight code
	{"10: 00 3E 05 21 34 12 00", []int{10}, []int{10, 11, 13, 16}, nil}, {"10: 00 3E 05 21 34 12 00", []int{13}, []int{13, 16}, nil}, {"10: 00 3E 05 21 34 12 00", []int{12}, []int{12, 13, 16}, nil}, {"0: DD 36 01 02 DD CB 05 06 ED B0 00", []int{0}, []int{0, 4, 8, 10}, nil}, {"0: C9", []int{0}, []int{0}, nil},
	// Given twice, in another order, and among others
	{"0: 00 C9 00 C9", []int{2, 0}, []int{0, 1, 2, 3}, nil}, {"0: 00 C9 00 C9", []int{2, 2, 2}, []int{2, 3}, nil}, {"0: 00 C9 00 C9", []int{3, 1, 3, 9, 1, -5}, []int{1, 3}, nil}, {"0: C9; 300: C9; 65535: C9", []int{65535, 300, 0}, []int{0, 300, 65535}, nil},
	// Loops
	{"100: 06 05 10 FE C9", []int{100}, []int{100, 102, 104}, []int{102}}, {"0: 18 FE 00", []int{0}, []int{0}, []int{0}}, {"0: 18 02 C9 00 18 FA", []int{4}, []int{0, 4}, []int{0, 4}}, {"0: 3E 01 3D 20 FD C9", []int{0}, []int{0, 2, 3, 5}, []int{2}}, {"0: C3 03 00 C3 06 00 C3 00 00", []int{3}, []int{0, 3, 6}, []int{0, 3, 6}}, {"0: CD 00 00", []int{0}, []int{0}, []int{0}},
	// Jumps into another item, and items that overlap each other
	{"0: 20 01 21 3E 05 C9", []int{0}, []int{0, 2, 3, 5}, []int{3}}, {"0: 18 FF C9", []int{0}, []int{0, 1, 2}, []int{1}}, {"0: C3 01 00 C9", []int{0}, []int{0, 1}, []int{1}}, {"0: 21 3E 05 C9", []int{0, 1, 2}, []int{0, 1, 2, 3}, nil},
	// Calls go on behind the instruction, and at the target
	{"0: CD 05 00 76 00 C9", []int{0}, []int{0, 3, 5}, []int{5}}, {"0: C4 05 00 76 00 C9", []int{0}, []int{0, 3, 5}, []int{5}}, {"0: FF 76; 56: C9", []int{0}, []int{0, 1, 56}, []int{56}}, {"0: CD 00 01; 256: C9", []int{0}, []int{0, 256}, []int{256}}, {"0: CD 03 00 C9", []int{0}, []int{0, 3}, []int{3}},
	// Jumps do not go on behind the instruction, unless they have a condition
	{"0: C3 05 00 76 00 C9", []int{0}, []int{0, 5}, []int{5}}, {"0: CA 05 00 76 00 C9", []int{0}, []int{0, 3, 5}, []int{5}}, {"0: 18 01 00 C9", []int{0}, []int{0, 3}, []int{3}}, {"0: 38 01 76 C9", []int{0}, []int{0, 2, 3}, []int{3}}, {"0: 10 01 76 C9", []int{0}, []int{0, 2, 3}, []int{3}}, {"0: 18 00 C9", []int{0}, []int{0, 2}, []int{2}}, {"0: 20 00 C9", []int{0}, []int{0, 2}, []int{2}},
	// Returns, and where a program goes away
	{"0: C0 D8 C9 00", []int{0}, []int{0, 1, 2}, nil}, {"0: ED 45 00", []int{0}, []int{0}, nil}, {"0: ED 4D 00", []int{0}, []int{0}, nil}, {"0: ED 5D 00", []int{0}, []int{0}, nil}, {"0: E9 00", []int{0}, []int{0}, nil}, {"0: DD E9 00", []int{0}, []int{0}, nil}, {"0: 76 00", []int{0}, []int{0}, nil},
	// Targets that are not defined, of all, of some and behind the end
	{"0: C3 00 10 00", []int{0}, []int{0}, nil}, {"0: CD 00 10 C9", []int{0}, []int{0, 3}, nil}, {"0: FF 76", []int{0}, []int{0, 1}, nil}, {"0: CA 00 10 CA 07 00 76 C9", []int{0}, []int{0, 3, 6, 7}, []int{7}}, {"0: 20 00", []int{0}, []int{0}, nil}, {"9: C3 08 00", []int{9}, []int{9}, nil},
	// Targets once, in order, and of reached instructions only
	{"0: 28 03 30 01 C9 76", []int{0}, []int{0, 2, 4, 5}, []int{5}}, {"0: C9 C3 00 00", []int{0}, []int{0}, nil}, {"0: C9 C3 00 00", []int{1}, []int{0, 1}, []int{0}}, {"0: 28 04 20 01 C9 76 C9", []int{0}, []int{0, 2, 4, 5, 6}, []int{5, 6}}, {"0: 76 C9 18 FD 18 FA", []int{4, 2}, []int{0, 1, 2, 4}, []int{0, 1}},
	// Strays, Holes, and items at the end of a run
	{"0: DD 00 ED 00 C9", []int{0}, []int{0, 1, 2, 4}, nil}, {"0: DD C3 06 00 FD FD C9", []int{0}, []int{0, 1, 6}, []int{6}}, {"0: 00 21 34", []int{0}, []int{0, 1}, nil}, {"0: 00 C3 00", []int{0}, []int{0, 1}, nil}, {"0: 00 18", []int{0, 1}, []int{0, 1}, nil}, {"0: 00 DD; 3: C9", []int{0}, []int{0, 1}, nil}, {"0: 00 C3; 3: 00 00", []int{0}, []int{0, 1}, nil}, {"0: 00 00; 3: 00", []int{0}, []int{0, 1}, nil}, {"0: 20 03 C3 00; 5: 00 CD 05", []int{0}, []int{0, 2, 5, 6}, []int{5}},
	// Both ends of the address space
	{"65535: 00; 0: 00", []int{65535}, []int{65535}, nil}, {"65534: 18 00; 0: 76", []int{65534}, []int{0, 65534}, []int{0}}, {"0: 18 FC; 65534: 76", []int{0}, []int{0, 65534}, []int{65534}}, {"65533: C3 00 00; 0: C9", []int{65533}, []int{0, 65533}, []int{0}}, {"65533: CD FF FF; 0: C9", []int{65533}, []int{65533, 65535}, []int{65535}}, {"65535: C7; 0: C9", []int{65535}, []int{0, 65535}, []int{0}}, {"65534: 20 00; 0: C9", []int{65534}, []int{0, 65534}, []int{0}}, {"65535: 18; 0: FE", []int{65535}, []int{65535}, nil},
}

// P14.4 and P14.5: what is reached in some images.
func TestReach(t *testing.T) {
	for _, c := range reach {
		m := imageOf(t, c.m)
		checkReach(t, c.m, m, c.starts, c.reach, c.targets)
		backward := slices.Clone(c.starts)
		slices.Reverse(backward)
		checkReach(t, c.m, m, backward, c.reach, c.targets)
		checkReach(t, c.m, m, slices.Concat(noAddresses, c.starts, backward), c.reach, c.targets)
		if !image.Same(m, imageOf(t, c.m)) {
			t.Errorf("the image %s has changed", c.m)
		}
	}
}

// P14.4: a nil image is like an empty one.
func TestReachOfNil(t *testing.T) {
	for _, starts := range [][]int{nil, {}, {0}, {0, 1, 65535, -1, 65536}, noAddresses} {
		checkReach(t, "nil", nil, starts, nil, nil)
		checkReach(t, "empty", image.New(), starts, nil, nil)
	}
}

// P14.4 and rule 4: the given addresses and the image stay as they are, and
// results are new.
func TestReachIsNew(t *testing.T) {
	room := []int{4, 0, 4, 99, 77, 78}
	starts := room[:4]
	m := imageOf(t, "0: 18 02 C9 00 18 FA")
	first, targets := flow.Reach(m, starts...), flow.Targets(m, starts...)
	for k := range first {
		first[k] = -7
	}
	for k := range targets {
		targets[k] = -7
	}
	if !slices.Equal(room, []int{4, 0, 4, 99, 77, 78}) {
		t.Errorf("the given addresses are %v", room)
	}
	checkReach(t, "the same image", m, starts, []int{0, 4}, []int{0, 4})
	// What is put into the image later counts later.
	m.Put(6, 0xC9)
	m.Put(99, 0xC3, 6, 0)
	checkReach(t, "the larger image", m, starts, []int{0, 4, 6, 99}, []int{0, 4, 6})
}

// filled returns an image in which the same bytes follow each other from 0 on.
func filled(size int, part ...byte) *image.Image {
	m := image.New()
	m.Put(0, bytes.Repeat(part, size/len(part))...)
	return m
}

// each returns the addresses from one on, with the same distance between them,
// that are less than another one.
func each(from, distance, below int) []int {
	var l []int
	for addr := from; addr < below; addr += distance {
		l = append(l, addr)
	}
	return l
}

// P14.4: images with thousands of cells, also from all addresses at once.
func TestLargeImages(t *testing.T) {
	t.Parallel()
	const all, some = api.Space, 9000
	for _, c := range []struct {
		name                   string
		m                      *image.Image
		starts, reach, targets []int
	}{
		{"NOP", filled(all, 0), []int{0}, each(0, 1, all), nil},
		{"NOP", filled(all, 0), []int{60000}, each(60000, 1, all), nil},
		{"NOP", filled(all, 0), each(-5, 1, all+5), each(0, 1, all), nil},
		{"LD (IX+5),5", filled(all, 0xDD, 0x36, 5, 5), []int{0}, each(0, 4, all), nil},
		{"JR $+2", filled(all, 0x18, 0), []int{65534}, each(0, 2, all), each(0, 2, all)},
		{"JR $+2", filled(some, 0x18, 0), []int{0}, each(0, 2, some), each(2, 2, some)},
		{"JR $-2", filled(some, 0x18, 0xFC), []int{some - 2}, each(0, 2, some), each(0, 2, some-2)},
		{"DJNZ $", filled(some, 0x10, 0xFE), []int{0}, each(0, 2, some), each(0, 2, some)},
		{"RST 56", filled(some, 0xFF), []int{0}, each(0, 1, some), []int{56}},
		{"RST 56", filled(some, 0xFF), []int{some - 1}, each(56, 1, some), []int{56}},
		{"CALL 0", filled(some, 0xCD, 0, 0), []int{some - 3}, each(0, 3, some), []int{0}},
		{"RET", filled(some, 0xC9), []int{5, 6000}, []int{5, 6000}, nil},
		{"RET", filled(some, 0xC9), each(0, 1, some), each(0, 1, some), nil},
		{"stray", filled(some, 0xDD), []int{0}, each(0, 1, some), nil},
		{"hole", filled(some, 0xED, 0xED), []int{0}, each(0, 2, some), nil},
	} {
		checkReach(t, c.name, c.m, c.starts, c.reach, c.targets)
	}
}

// P14.4: a chain of jumps through thousands of cells, up and down again.
func TestChains(t *testing.T) {
	t.Parallel()
	m := image.New()
	var want []int
	const last = 6000
	for k := range last {
		// The even ones go up by two, the last one of them to the odd ones, which
		// go down by two.
		to := k + 2
		if k%2 == 1 {
			to = max(k-2, 0)
		}
		if k == last-2 {
			to = last - 1
		}
		m.Put(3*k, 0xC3, byte(3*to), byte(3*to>>8))
		want = append(want, 3*k)
	}
	for _, start := range []int{0, 3, 9000, 3 * (last - 1)} {
		checkReach(t, "chain", m, []int{start}, want, want)
	}
}

// Rule 6: the functions may be called concurrently.
func TestConcurrently(t *testing.T) {
	m := imageOf(t, "0: 20 03 CD 14 00 C9 00; 20: DD 00 C3 06 00; 30: C3 00")
	var wg sync.WaitGroup
	for range 8 {
		wg.Go(func() {
			for range 20 {
				checkReach(t, "the same image", m, []int{0, 30}, []int{0, 2, 5, 6, 20, 21, 22, 30}, []int{5, 6, 20})
				for _, c := range next {
					if got := flow.Next(c.addr, itemOf(t, c.raw)); !slices.Equal(got, c.want) {
						t.Errorf("Next(%d, %s) = %v, want %v", c.addr, c.raw, got, c.want)
					}
				}
			}
		})
	}
	wg.Wait()
}
