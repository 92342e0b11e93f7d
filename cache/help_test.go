package cache

import (
	"anamnesis/api"
	"anamnesis/look"
	"fmt"
	"slices"
	"testing"
)

// The bounds stand here as numbers of their own, so that a test doesn't follow the code into a mistake.
const (
	greatest = 2147483647  // the value of the greatest SmallInteger
	least    = -2147483647 // of the least one
	signed   = -1 << 63
	highest  = 1<<63 - 1
)

// few is a heap with classes: 0 (object 0 is one), 2 under 4, 6, and 8 under what is no class. All but 8 have a dictionary of selectors, and what goes with each one tells the dictionary, the selector, and add. The dictionary of 8 is object 0's: empty.
func few(add int) api.Heap {
	h := api.Heap{Cap: 16, Last: 77, Objs: []api.Obj{
		{Slots: []int{0, 10, 1}},
		{Slots: []int{4, 12, 1}},
		{Slots: []int{0, 14, 1}},
		{Slots: []int{0, 16, 1}},
		{Slots: []int{18, 0, 1}},
		5: {}, 6: {}, 7: {}, 8: {},
		9: {Kind: 1, Text: "no class"},
	}}
	for d := 5; d <= 8; d++ {
		for k, sel := range selectors() {
			h.Objs[d].Slots = append(h.Objs[d].Slots, sel, 2*(add+1000*d+k)+1)
		}
	}
	// What 2 has not, 4 has.
	h.Objs[6].Slots = h.Objs[6].Slots[:2*(len(selectors())-1)]
	return h
}

// knowing are few's classes that know all selectors.
func knowing() []int { return []int{0, 2, 4, 6} }

// selectors are those that few's classes know: refs, and SmallIntegers of either sign.
func selectors() []int {
	return []int{0, 2, 4, 8, 18, 1, 3, 7, 31, 61, 63, 127, 1999, greatest, greatest - 2, -1, -3, -7, -31, -61, -63, -127, -187, -2001, least, least + 2}
}

// broad is a heap in which class 2 knows selectors 0 to 63, by way of its super from 32 on: one for each place.
func broad() api.Heap {
	h := api.Heap{Cap: 32, Objs: make([]api.Obj, 32)}
	h.Objs[1].Slots = []int{4, 6, 1}
	h.Objs[2].Slots = []int{0, 8, 1}
	for sel := range 64 {
		d := &h.Objs[3+sel/32]
		d.Slots = append(d.Slots, sel, 2*sel+101)
	}
	return h
}

// unknown are no class's, or no values.
func unknown() []int {
	return []int{6, 10, 5, -5, 32, greatest + 1, least - 1, 1 << 40, -1 << 40, signed, signed + 1, highest, highest - 1}
}

// noClasses are none in few.
func noClasses() []int {
	return []int{10, 12, 18, 20, 1, 3, -1, -2, greatest, least, 1 << 40, signed, signed + 2, highest, highest - 1}
}

// mayNotBe are heaps of which look tells an error.
func mayNotBe() []api.Heap {
	h := few(0)
	h.Objs[9].Class = 20
	return []api.Heap{{}, {Cap: 300}, {Cap: 1, Objs: make([]api.Obj, 2)}, h}
}

// found is what Find answers.
type found struct {
	v, at int
	e     api.Errno
}

func nothing(e api.Errno) found { return found{e: e} }

func find(c *Cache, h api.Heap, class, sel int) found {
	v, at, e := c.Find(h, class, sel)
	return found{v, at, e}
}

// looked is what look answers.
func looked(h api.Heap, class, sel int) found {
	v, at, e := look.Find(h, class, sel)
	return found{v, at, e}
}

func wantFind(t *testing.T, what string, c *Cache, h api.Heap, class, sel int, want found) {
	t.Helper()
	if got := find(c, h, class, sel); got != want {
		t.Fatalf("%s: Find of %d in %d: %v; want %v", what, sel, class, got, want)
	}
}

func wantHits(t *testing.T, what string, c *Cache, hits, misses int) {
	t.Helper()
	if a, b := c.Hits(); a != hits || b != misses {
		t.Fatalf("%s: Hits: %d, %d; want %d, %d", what, a, b, hits, misses)
	}
}

// placeByWords is the chapter's: a number from 0 to size - 1 from which 31 times class, and sel, lies some sizes away.
func placeByWords(class, sel, size int) int {
	for place := range size {
		if (31*class+sel-place)%size == 0 {
			return place
		}
	}
	return -1
}

// byWords is a cache by the chapter's words: all it was told, the latest last.
type byWords struct {
	size         int
	filled       []filling
	hits, misses int
}

type filling struct {
	place, class, sel int
	answer            found
}

func (w *byWords) find(h api.Heap, class, sel int) found {
	place := placeByWords(class, sel, w.size)
	for _, f := range slices.Backward(w.filled) {
		if f.place != place {
			continue
		}
		if f.class == class && f.sel == sel {
			w.hits++
			return f.answer
		}
		break
	}
	w.misses++
	answer := looked(h, class, sel)
	if answer.e == api.OK {
		w.filled = append(w.filled, filling{place, class, sel, answer})
	}
	return answer
}

func (w *byWords) flush() { w.filled = nil }

// told is a heap, in which an empty list and a nil one are the same.
func told(h api.Heap) string { return fmt.Sprintf("%+q", fmt.Sprintf("%+v", h)) }

// spread is a row of numbers all over, the same in each run.
type spread uint32

func (s *spread) below(n int) int {
	*s = *s*1664525 + 1013904223
	return int(uint64(*s) * uint64(n) >> 32)
}

func (s *spread) of(l []int) int { return l[s.below(len(l))] }

// class is mostly one that knows all selectors, sel mostly one of these.
func (s *spread) class() int {
	if s.below(8) == 0 {
		return s.of(append(noClasses(), 8))
	}
	return s.of(knowing())
}

func (s *spread) sel() int {
	if s.below(8) == 0 {
		return s.of(unknown())
	}
	return s.of(selectors())
}

// heap is few, mostly, or one that may not be.
func (s *spread) heap() api.Heap {
	if s.below(16) == 0 {
		l := mayNotBe()
		return l[s.below(len(l))]
	}
	return few(100 * s.below(4))
}

// anyInt is one near 0, or of all bits.
func (s *spread) anyInt() int {
	if s.below(2) == 0 {
		return s.below(80) - 20
	}
	return int(uint64(s.below(1<<32))<<32 | uint64(s.below(1<<32)))
}
