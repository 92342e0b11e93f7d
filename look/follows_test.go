package look

import (
	"anamnesis/api"
	"slices"
	"testing"
)

// withPair is h, but the class c has a dictionary of its own, behind all objects, with this pair ahead of all that it had.
func withPair(h api.Heap, c, sel, v int) api.Heap {
	g := api.Heap{Cap: h.Cap + 1, Last: h.Last, Objs: slices.Clone(h.Objs)}
	pairs := []int{sel, v}
	if d := h.Objs[c/2].Slots[1]; d != 0 {
		pairs = append(pairs, h.Objs[d/2].Slots...)
	}
	slots := slices.Clone(h.Objs[c/2].Slots)
	slots[1] = 2 * len(h.Objs)
	g.Objs[c/2].Slots = slots
	g.Objs = append(g.Objs, api.Obj{Slots: pairs})
	return g
}

// TestP9_4_Hides: what is put into a class is found in it, whatever those above have.
func TestP9_4_Hides(t *testing.T) {
	each(t, func(h api.Heap) {
		for _, c := range some(h) {
			if !isClassByWords(h, c) {
				continue
			}
			for _, sel := range some(h) {
				if sel < least || sel > greatest || sel%2 == 0 && (sel < 0 || sel >= 2*len(h.Objs)) {
					continue
				}
				wantFind(t, "a pair more", withPair(h, c, sel, 77), c, sel, found{77, c, api.OK})
			}
		}
	})
}

// TestP9_4_AboveIsHidden: what is put into a class above the one that has it changes nothing, and what is put into one between hides it.
func TestP9_4_AboveIsHidden(t *testing.T) {
	each(t, func(h api.Heap) {
		for _, c := range some(h) {
			for _, sel := range []int{1, 3, 5, 7, 9} {
				got := find(h, c, sel)
				if got.e != api.OK {
					continue
				}
				wantUnder(t, "where it was found", h, c, got.at, true)
				wantHidden(t, h, c, sel, got)
			}
		}
	})
}

// wantHidden puts a pair of sel into each class from c on upwards, once around where they stand in a ring.
func wantHidden(t *testing.T, h api.Heap, c, sel int, got found) {
	t.Helper()
	var below []int
	for at := c; at != 0 && len(below) < 8 && isClassByWords(h, at) && !slices.Contains(below, at); at = h.Objs[at/2].Slots[0] {
		want := found{77, at, api.OK}
		if slices.Contains(below, got.at) {
			want = got
		}
		wantFind(t, "a pair more", withPair(h, at, sel, 77), c, sel, want)
		below = append(below, at)
	}
}

// TestP9_4_FromAbove: what a class has not is what its super has.
func TestP9_4_FromAbove(t *testing.T) {
	for _, c := range []int{2, 4, 8} {
		above := few().Objs[c/2].Slots[0]
		own := pairsByWords(few(), c)
		for _, sel := range all() {
			if !slices.ContainsFunc(own, func(pair [2]int) bool { return pair[0] == sel }) {
				wantFind(t, "few", few(), c, sel, find(few(), above, sel))
			}
		}
	}
}

// TestR1_AllArguments: each call ends, whatever numbers it is given; what they answer is told elsewhere.
func TestR1_AllArguments(t *testing.T) {
	s := spread(9)
	heaps := []api.Heap{few(), {Cap: 1}, {Cap: 1, Objs: make([]api.Obj, 1)}, row(126, api.Obj{})}
	for range 20000 {
		h := heaps[s.below(len(heaps))]
		v, w := s.anyInt(), s.anyInt()
		wantMay(t, "any numbers", h, v, isClassByWords(h, v))
		wantFind(t, "any numbers", h, v, w, findByWords(h, v, w, 64))
		wantUnder(t, "any numbers", h, v, w, underByWords(h, v, w, 64))
		if _, e := Of(h, v); e != api.OK && e != api.ErrRef {
			t.Fatalf("Of %d: error %d", v, e)
		}
	}
}

// anyInt is one near 0, or of all bits.
func (s *spread) anyInt() int {
	if s.below(2) == 0 {
		return s.below(80) - 20
	}
	return int(uint64(s.below(1<<32))<<32 | uint64(s.below(1<<32)))
}

// TestR3_NothingIsKept: what was asked before does not count.
func TestR3_NothingIsKept(t *testing.T) {
	for range 3 {
		wantFind(t, "first", few(), 2, 24, found{43, 4, api.OK})
		wantFind(t, "between", api.Heap{}, 2, 24, nothing(api.ErrArg))
		other := turnedObj(6, func(o *api.Obj) { o.Slots = nil })
		wantFind(t, "another heap", other, 2, 24, found{51, 6, api.OK})
		wantUnder(t, "another heap", turnedObj(1, func(o *api.Obj) { o.Slots[0] = 6 }), 2, 4, false)
		wantUnder(t, "again", few(), 2, 4, true)
		wantOf(t, "another heap", turnedObj(1, func(o *api.Obj) { o.Class = 10 }), 2, 10, api.OK)
		wantOf(t, "again", few(), 2, 6, api.OK)
		wantMay(t, "another heap", turnedObj(1, func(o *api.Obj) { o.Slots = nil }), 2, false)
		wantMay(t, "again", few(), 2, true)
	}
	// One heap that is written into from call to call.
	h := few()
	for k := range 50 {
		h.Objs[5].Slots[1] = 2*k + 1
		wantFind(t, "written into", h, 2, 20, found{2*k + 1, 2, api.OK})
	}
}

// TestR5_EmptyIsNil: an empty list is as good as a nil one.
func TestR5_EmptyIsNil(t *testing.T) {
	h := turned(func(h *api.Heap) {
		for i := range h.Objs {
			if len(h.Objs[i].Slots) == 0 {
				h.Objs[i].Slots = []int{}
			}
		}
		h.Objs[2].Slots[1] = 28
	})
	wantFind(t, "an empty dictionary", h, 2, 24, found{51, 6, api.OK})
	wantFind(t, "an empty dictionary", h, 4, 22, nothing(api.ErrNone))
	wantMay(t, "no slots", h, 28, false)
	wantFind(t, "no slots", h, 28, 22, nothing(api.ErrClass))
	none := api.Heap{Cap: 1, Objs: []api.Obj{}}
	wantMay(t, "no objects", none, 0, false)
	wantOf(t, "no objects", none, 0, 0, api.ErrRef)
	wantFind(t, "no objects", none, 0, 0, nothing(api.ErrClass))
	wantUnder(t, "no objects", none, 0, 0, false)
}
