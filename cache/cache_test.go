package cache

import (
	"anamnesis/api"
	"testing"
)

func TestP10_1_Sizes(t *testing.T) {
	for _, size := range []int{signed, -64, -1, 0, 65, 66, 128, 1 << 32, 1<<32 + 1, highest} {
		if New(size) != nil {
			t.Errorf("New of %d is a cache", size)
		}
	}
	for size := 1; size <= 64; size++ {
		if New(size) == nil {
			t.Fatalf("New of %d is nil", size)
		}
		wantHits(t, "a new one", New(size), 0, 0)
	}
}

// TestP10_1_NewIsEmpty: nothing that is asked for first is a hit, not even of class and selector 0.
func TestP10_1_NewIsEmpty(t *testing.T) {
	for size := 1; size <= 64; size++ {
		for _, class := range knowing() {
			for _, sel := range selectors() {
				c := New(size)
				wantFind(t, "first", c, few(0), class, sel, looked(few(0), class, sel))
				wantHits(t, "first", c, 0, 1)
			}
		}
		c := New(size)
		wantFind(t, "of 0", c, api.Heap{}, 0, 0, nothing(api.ErrArg))
		wantHits(t, "of 0", c, 0, 1)
	}
}

func TestP10_1_ByHand(t *testing.T) {
	c := New(8)
	h := few(0)
	wantFind(t, "a ref", c, h, 6, 2, found{16003, 6, api.OK})
	wantHits(t, "a ref", c, 0, 1)
	wantFind(t, "a ref again", c, h, 6, 2, found{16003, 6, api.OK})
	wantHits(t, "a ref again", c, 1, 1)
	wantFind(t, "of a super", c, h, 2, least+2, found{14051, 4, api.OK})
	wantHits(t, "of a super", c, 1, 2)
	wantFind(t, "of a super again", c, h, 2, least+2, found{14051, 4, api.OK})
	wantHits(t, "of a super again", c, 2, 2)
	wantFind(t, "what nobody knows", c, h, 2, 6, nothing(api.ErrNone))
	wantFind(t, "what nobody knows", c, h, 2, 6, nothing(api.ErrNone))
	wantHits(t, "what nobody knows", c, 2, 4)
	wantFind(t, "under no class", c, h, 8, 2, nothing(api.ErrClass))
	wantHits(t, "under no class", c, 2, 5)
	wantFind(t, "the first one, as it was kept", c, h, 6, 2, found{16003, 6, api.OK})
	wantHits(t, "the first one, as it was kept", c, 3, 5)
}

// TestP10_1_Kept: what a place has is answered whatever the heap is now, even where it may not be.
func TestP10_1_Kept(t *testing.T) {
	for _, class := range knowing() {
		for _, sel := range selectors() {
			c := New(64)
			was := find(c, few(0), class, sel)
			others := append(mayNotBe(), few(500), api.Heap{Cap: 1, Objs: make([]api.Obj, 1)})
			for k, h := range others {
				wantFind(t, "another heap", c, h, class, sel, was)
				wantHits(t, "another heap", c, k+1, 1)
			}
		}
	}
}

// TestP10_1_SameKey: only the same class and the same selector are a hit, even where all share one place.
func TestP10_1_SameKey(t *testing.T) {
	type key struct{ class, sel int }
	var keys []key
	for _, class := range knowing() {
		for _, sel := range selectors() {
			keys = append(keys, key{class, sel})
		}
	}
	for _, a := range keys {
		for _, b := range keys {
			c := New(1)
			find(c, few(0), a.class, a.sel)
			was := find(c, few(100), b.class, b.sel)
			hits, _ := c.Hits()
			if (hits == 1) != (a == b) {
				t.Fatalf("%v behind %v: %d hits", b, a, hits)
			}
			if a != b && was != looked(few(100), b.class, b.sel) {
				t.Fatalf("%v behind %v: %v", b, a, was)
			}
		}
	}
}

// TestP10_1_Places: a second answer puts out the first one just if they have one place.
func TestP10_1_Places(t *testing.T) {
	h := few(0)
	for size := 1; size <= 64; size++ {
		for k, sel := range selectors() {
			a, b := knowing()[k%4], knowing()[(k+size)%4]
			for _, other := range selectors() {
				if a == b && sel == other {
					continue
				}
				c := New(size)
				find(c, h, a, sel)
				find(c, h, b, other)
				kept := 0
				if placeByWords(a, sel, size) != placeByWords(b, other, size) {
					kept = 1
				}
				wantFind(t, "the first one", c, h, a, sel, looked(h, a, sel))
				wantHits(t, "the first one", c, kept, 3-kept)
			}
		}
	}
}

// TestP10_1_PlacesByHand: 31 times class, and sel, modulo size; that is never below 0.
func TestP10_1_PlacesByHand(t *testing.T) {
	for _, x := range []struct {
		size, a, sel, b, other int
		same                   bool
	}{
		{8, 0, -1, 0, 7, true}, {8, 0, -1, 0, 1, false}, {8, 0, -3, 0, -187, true}, {8, 0, -7, 0, 1, true}, {8, 0, -7, 0, 7, false},
		{64, 0, -1, 0, 63, true}, {64, 0, -63, 0, 1, true}, {64, 0, -1, 0, 1, false}, {64, 0, least, 0, 1, true}, {64, 0, greatest, 0, 63, true},
		{64, 2, 1, 0, 63, true}, {64, 2, 0, 0, 2, false}, {31, 2, 3, 6, 3, true}, {31, 2, 3, 6, 1, false}, {30, 2, 0, 0, 2, true}, {32, 4, 4, 0, 0, true},
		{2, 0, 2, 6, 8, true}, {2, 0, 2, 6, 3, false}, {2, 0, -1, 0, 2, false}, {2, 0, -1, 6, 31, true},
	} {
		c := New(x.size)
		find(c, few(0), x.a, x.sel)
		find(c, few(0), x.b, x.other)
		find(c, few(0), x.a, x.sel)
		if hits, _ := c.Hits(); (hits == 0) != x.same {
			t.Errorf("%+v: %d hits", x, hits)
		}
	}
}

// TestP10_1_Failed: what is no answer is not kept, and puts nothing out, though it comes to the same place.
func TestP10_1_Failed(t *testing.T) {
	h := few(0)
	fail := func(c *Cache) int {
		n := 0
		for _, sel := range unknown() {
			for _, class := range knowing() {
				wantFind(t, "unknown", c, h, class, sel, nothing(api.ErrNone))
				n++
			}
		}
		for _, class := range noClasses() {
			wantFind(t, "no class", c, h, class, 2, nothing(api.ErrClass))
			wantFind(t, "no class", c, h, class, 2, nothing(api.ErrClass))
			n += 2
		}
		for _, other := range mayNotBe() {
			wantFind(t, "no heap", c, other, 4, 4, nothing(api.ErrArg))
			n++
		}
		return n
	}
	for size := 1; size <= 64; size++ {
		c := New(size)
		n := fail(c)
		wantFind(t, "first", c, h, 6, 2, found{16003, 6, api.OK})
		n += fail(c) + 1
		wantHits(t, "failed", c, 0, n)
		wantFind(t, "again", c, api.Heap{}, 6, 2, found{16003, 6, api.OK})
		wantHits(t, "again", c, 1, n)
	}
}

// TestP10_1_FoundLater: what failed is looked for again.
func TestP10_1_FoundLater(t *testing.T) {
	c := New(4)
	wantFind(t, "ahead", c, few(0), 6, 5, nothing(api.ErrNone))
	h := few(0)
	h.Objs[8].Slots[0] = 5
	wantFind(t, "behind", c, h, 6, 5, found{16001, 6, api.OK})
	wantHits(t, "behind", c, 0, 2)
	wantFind(t, "kept", c, few(0), 6, 5, found{16001, 6, api.OK})
	wantHits(t, "kept", c, 1, 2)
}

// TestP10_1_Replaced: the latest answer is what a place has.
func TestP10_1_Replaced(t *testing.T) {
	c := New(1)
	for k := range 20 {
		h := few(100 * k)
		wantFind(t, "first", c, h, 2, 0, looked(h, 2, 0))
		wantFind(t, "first again", c, few(0), 2, 0, looked(h, 2, 0))
		wantFind(t, "second", c, h, 4, 0, looked(h, 4, 0))
		wantFind(t, "second again", c, few(0), 4, 0, looked(h, 4, 0))
		wantHits(t, "replaced", c, 2*k+2, 2*k+2)
	}
}

// TestP10_1_Nil: without a cache, look is asked each time.
func TestP10_1_Nil(t *testing.T) {
	for what, c := range map[string]*Cache{"nil": nil, "of no size": New(0), "not made": {}} {
		for range 2 {
			for _, h := range append(mayNotBe(), few(0), few(100)) {
				wantFind(t, what, c, h, 2, 2, looked(h, 2, 2))
				wantFind(t, what, c, h, 2, 6, looked(h, 2, 6))
				wantFind(t, what, c, h, 8, 2, looked(h, 8, 2))
				wantHits(t, what, c, 0, 0)
				c.Flush()
			}
		}
		wantFind(t, what, c, few(0), 6, 2, found{16003, 6, api.OK})
		wantHits(t, what, c, 0, 0)
	}
}

// TestP10_2_Flush: behind it the heap as it is counts, and what is found then is kept again; no count changes.
func TestP10_2_Flush(t *testing.T) {
	for size := 1; size <= 64; size++ {
		c := New(size)
		c.Flush()
		wantHits(t, "at first", c, 0, 0)
		for round := range 5 {
			wantFind(t, "flushed", c, few(round), 0, -1, looked(few(round), 0, -1))
			wantFind(t, "kept", c, few(round+1), 0, -1, looked(few(round), 0, -1))
			c.Flush()
			wantHits(t, "behind Flush", c, round+1, round+1)
			c.Flush()
			wantHits(t, "behind two", c, round+1, round+1)
		}
	}
}

// TestP10_2_AllPlaces: each place is filled, is a hit, and is empty behind Flush.
func TestP10_2_AllPlaces(t *testing.T) {
	h := broad()
	for size := 1; size <= 64; size++ {
		c := New(size)
		for round := range 3 {
			for sel := range size {
				wantFind(t, "filled", c, h, 2, sel, looked(h, 2, sel))
			}
			for sel := range size {
				wantFind(t, "kept", c, api.Heap{}, 2, sel, looked(h, 2, sel))
			}
			wantHits(t, "all places", c, (round+1)*size, (2*round+1)*size)
			c.Flush()
			for sel := range size {
				wantFind(t, "flushed", c, api.Heap{}, 2, sel, nothing(api.ErrArg))
			}
			wantHits(t, "no places", c, (round+1)*size, (2*round+2)*size)
		}
	}
}

// TestP10_2_Hits: each Find counts once, whatever it answers; nothing else counts.
func TestP10_2_Hits(t *testing.T) {
	c := New(64)
	for k := range 10 {
		wantHits(t, "ahead", c, k, 4*k)
		wantFind(t, "found", c, few(0), 6, 2, found{16003, 6, api.OK})
		wantHits(t, "found", c, k, 4*k+1)
		wantFind(t, "kept", c, few(0), 6, 2, found{16003, 6, api.OK})
		wantFind(t, "no heap", c, api.Heap{}, 2, 2, nothing(api.ErrArg))
		wantFind(t, "no class", c, few(0), 1, 2, nothing(api.ErrClass))
		wantFind(t, "unknown", c, few(0), 2, 6, nothing(api.ErrNone))
		wantHits(t, "behind", c, k+1, 4*k+4)
		c.Flush()
	}
}
