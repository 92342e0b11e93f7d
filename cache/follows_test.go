package cache

import (
	"anamnesis/api"
	"testing"
)

// TestP10_1_ByWords: whatever is asked, in whatever order, is answered by the words.
func TestP10_1_ByWords(t *testing.T) {
	s := spread(10)
	for size := 1; size <= 64; size++ {
		c, w := New(size), &byWords{size: size}
		for range 600 {
			h, class, sel := s.heap(), s.class(), s.sel()
			wantFind(t, "one of many", c, h, class, sel, w.find(h, class, sel))
			wantHits(t, "one of many", c, w.hits, w.misses)
			if s.below(100) == 0 {
				c.Flush()
				w.flush()
				wantHits(t, "behind Flush", c, w.hits, w.misses)
			}
		}
	}
}

// TestP10_3_SameHeap: of one heap the answers are look's.
func TestP10_3_SameHeap(t *testing.T) {
	s := spread(11)
	h := few(0)
	for size := 1; size <= 64; size++ {
		c := New(size)
		for range 600 {
			class, sel := s.class(), s.sel()
			wantFind(t, "one heap", c, h, class, sel, looked(h, class, sel))
		}
		if hits, misses := c.Hits(); hits == 0 || hits+misses != 600 {
			t.Fatalf("size %d: %d hits, %d not", size, hits, misses)
		}
	}
}

// TestP10_3_FlushBehindChanges: where each change is followed by Flush, the answers are look's.
func TestP10_3_FlushBehindChanges(t *testing.T) {
	s := spread(12)
	for size := 1; size <= 64; size++ {
		c := New(size)
		h := few(0)
		for range 600 {
			if s.below(20) == 0 {
				h = s.heap()
				c.Flush()
			}
			class, sel := s.class(), s.sel()
			wantFind(t, "changed", c, h, class, sel, looked(h, class, sel))
		}
	}
}

// TestR1_AllArguments: each call ends, whatever numbers it is given, and has its place.
func TestR1_AllArguments(t *testing.T) {
	s := spread(13)
	heaps := append(mayNotBe(), few(0))
	caches := []*Cache{nil, {}, New(1), New(2), New(3), New(31), New(63), New(64)}
	for range 20000 {
		h, c := heaps[s.below(len(heaps))], caches[s.below(len(caches))]
		class, sel := s.anyInt(), s.anyInt()
		got := find(c, h, class, sel)
		if want := looked(few(0), class, sel); got != want && got != nothing(api.ErrArg) {
			t.Fatalf("Find of %d in %d: %v; want %v", sel, class, got, want)
		}
		New(s.anyInt()).Flush()
	}
	ends := []int{signed, signed + 1, highest, highest - 1, 0, -1, 1}
	for _, class := range ends {
		for _, sel := range ends {
			for _, c := range caches {
				wantFind(t, "the ends", c, api.Heap{}, class, sel, find(New(1), api.Heap{}, class, sel))
				c.Flush()
			}
		}
	}
}

// TestR3_Apart: caches have nothing in common.
func TestR3_Apart(t *testing.T) {
	a, b := New(4), New(4)
	wantFind(t, "a", a, few(0), 6, 2, found{16003, 6, api.OK})
	wantHits(t, "b", b, 0, 0)
	wantFind(t, "b", b, few(1), 6, 2, found{16005, 6, api.OK})
	wantFind(t, "a", a, few(2), 6, 2, found{16003, 6, api.OK})
	b.Flush()
	wantFind(t, "a", a, few(2), 6, 2, found{16003, 6, api.OK})
	wantHits(t, "a", a, 2, 1)
	wantHits(t, "b", b, 0, 1)
}

// TestR4_HeapStays: the heap stays as it was, and what is kept of it stays, too, when it is written into.
func TestR4_HeapStays(t *testing.T) {
	h := few(0)
	before := told(h)
	c := New(16)
	for _, class := range append(knowing(), 8, 18) {
		for _, sel := range append(selectors(), unknown()...) {
			find(c, h, class, sel)
			find(c, h, class, sel)
		}
	}
	c.Flush()
	if after := told(h); after != before {
		t.Fatalf("the heap has changed to\n%s; it was\n%s", after, before)
	}
	wantFind(t, "ahead", c, h, 6, 2, found{16003, 6, api.OK})
	h.Objs[8].Slots[3] = 5
	h.Objs[3] = api.Obj{}
	wantFind(t, "written into", c, h, 6, 2, found{16003, 6, api.OK})
	h.Objs[3] = api.Obj{Slots: []int{0, 16, 1}}
	c.Flush()
	wantFind(t, "flushed", c, h, 6, 2, found{5, 6, api.OK})
}
