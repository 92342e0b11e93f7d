package prim_test

import (
	"anamnesis/api"
	"anamnesis/heap"
	"anamnesis/prim"
	"slices"
	"testing"
)

// TestP13_3_FailsChangesNothing: who fails leaves the heap, and who does not leaves one that may be.
func TestP13_3_FailsChangesNothing(t *testing.T) {
	count := map[api.Errno]int{}
	for _, h := range []api.Heap{few(), full()} {
		for num := -1; num <= 29; num++ {
			for _, self := range values() {
				for _, args := range [][]int{nil, {3}, {7}, {-1}, {131}, {24}, {40}, {58}, {3, 3}, {9, 56}, {3, 513}, {1, 1}, {3, 3, 3}} {
					g, v, e := prim.Do(h, num, self, args)
					if e != api.OK && (v != 0 || !isSame(g, h)) {
						t.Fatalf("%d of %d, %v: error %d, %d, and\n%s; it was\n%s", num, self, args, e, v, told(g), told(h))
					}
					if !heap.May(g) || e == api.OK && !isValueByWords(g, v) {
						t.Fatalf("%d of %d, %v: %d, and\n%s", num, self, args, v, told(g))
					}
					count[e]++
				}
			}
		}
	}
	if count[api.OK] < 1000 || count[api.ErrPrim] < 1000 || count[api.ErrFull] < 100 || len(count) != 3 {
		t.Errorf("errors by their numbers: %v", count)
	}
}

// TestP13_3_ManyCalls goes on from heap to heap.
func TestP13_3_ManyCalls(t *testing.T) {
	s := spread(3)
	h := few()
	for k := range 20000 {
		// Where there is no room any more, one begins anew, now and then; with much room, or little.
		if k%500 == 0 {
			h = few()
			h.Cap = 32 + s.below(225)
		}
		num := s.below(28)
		args := []int{s.valueOf(h), s.valueOf(h)}[:max(countByWords(num), 0)]
		self := s.valueOf(h)
		want := doByWords(h, num, self, args)
		wantDo(t, "one of many", h, num, self, args, want)
		h, _, _ = prim.Do(h, num, self, args)
		if !heap.May(h) {
			t.Fatalf("%d of %d, %v: there is\n%s", num, self, args, told(h))
		}
	}
}

// TestP13_3_TwiceBecome changes nothing.
func TestP13_3_TwiceBecome(t *testing.T) {
	for v := 24; v < 64; v += 2 {
		for w := 24; w < 64; w += 2 {
			g, _, _ := prim.Do(few(), 16, v, []int{w})
			wantDo(t, "twice", g, 16, v, []int{w}, answer{h: few(), v: v})
		}
	}
}

// TestR1_AllArguments: each call ends, whatever it is given.
func TestR1_AllArguments(t *testing.T) {
	s := spread(4)
	odd := []api.Heap{few(), full(), {}, {Cap: 1}, {Cap: 256, Objs: make([]api.Obj, 256)}, {Cap: 20, Objs: slices.Repeat([]api.Obj{{Class: 12, Slots: make([]int, 64)}}, 20)}, {Cap: 20, Objs: slices.Repeat([]api.Obj{{Class: signed, Kind: highest, Slots: []int{signed, highest}, Text: "a", Bits: 7, Hash: -1}}, 20), Last: signed}}
	for range 30000 {
		h := odd[s.below(len(odd))]
		num := s.below(30) - 1
		if s.below(8) == 0 {
			num = s.anyInt()
		}
		args := []int{s.anyInt(), s.anyInt(), s.anyInt()}[:s.below(4)]
		wantWords(t, "any", h, num, s.anyInt(), args...)
		n, ok := prim.Args(num)
		if want := countByWords(num); ok != (want >= 0) || n != max(want, 0) {
			t.Fatalf("Args of %d: %d, %v", num, n, ok)
		}
	}
}

// TestR3_NothingIsKept: what was asked before does not count.
func TestR3_NothingIsKept(t *testing.T) {
	h := few()
	for k := range 50 {
		wantWords(t, "first", few(), 8, 56, 3)
		wantWords(t, "between", api.Heap{}, 8, 56, 3)
		wantWords(t, "new", few(), 11, 24)
		wantWords(t, "failed", few(), 11, 34)
		// One heap that is written into from call to call.
		h.Objs[28].Slots[0], h.Objs[12].Slots[2], h.Objs[20].Bits, h.Objs[17].Text = 2*k+1, 2*k+1, bitsOf(float64(k)), string([]byte{byte(k)})
		wantDo(t, "written into", h, 8, 56, []int{3}, answer{h: h, v: 2*k + 1})
		wantDo(t, "written into", h, 23, 40, nil, answer{h: h, v: 2*k + 1})
		wantDo(t, "written into", h, 25, 34, []int{3}, answer{h: h, v: 2*k + 1})
		wantDo(t, "written into", h, 11, 24, nil, answer{h: withMore(h, api.Obj{Class: 24, Slots: make([]int, k)}), v: 64})
	}
}

// asked is what Do is told, but for the heap.
type asked struct {
	num, self int
	args      []int
}

// askedOfAll are all primitives, such as answer and such as fail.
func askedOfAll() []asked {
	l := []asked{{0, 7, nil}, {28, 7, nil}, {1, 7, nil}, {10, 64, nil}, {14, 7, []int{64}}}
	for num := 1; num <= 27; num++ {
		for _, self := range []int{7, 24, 34, 40, 56} {
			l = append(l, asked{num, self, []int{3, 5}[:countByWords(num)]}, asked{num, self, []int{58, 62}[:countByWords(num)]})
		}
	}
	return l
}

// spoil writes into all memory that the lists of h have, beyond their ends, too.
func spoil(h api.Heap) {
	for i := range h.Objs {
		spoilSlots(h.Objs[i].Slots)
	}
	all := h.Objs[:cap(h.Objs)]
	for i := range all {
		all[i] = api.Obj{Class: 99, Kind: 99, Text: "spoilt", Bits: 99, Hash: 99}
	}
}

func spoilSlots(l []int) {
	l = l[:cap(l)]
	for i := range l {
		l[i] = 999
	}
}

func wantHeap(t *testing.T, x asked, got, want api.Heap) {
	t.Helper()
	if !isSame(got, want) {
		t.Fatalf("%d of %d, %v: the heap\n%s; want\n%s", x.num, x.self, x.args, told(got), told(want))
	}
}

// TestR4_NoSharedMemory: neither who writes into an answer changes an argument, nor the other way round.
func TestR4_NoSharedMemory(t *testing.T) {
	for _, start := range []func() api.Heap{few, full} {
		for _, x := range askedOfAll() {
			h := start()
			g, _, _ := prim.Do(h, x.num, x.self, x.args)
			spoil(g)
			wantHeap(t, x, h, start())

			h = start()
			g, _, _ = prim.Do(h, x.num, x.self, x.args)
			want := copyOf(g)
			spoil(h)
			wantHeap(t, x, g, want)
		}
	}
}

// TestR4_RoomBehind: what lies behind a list in its memory is not written into.
func TestR4_RoomBehind(t *testing.T) {
	for _, x := range askedOfAll() {
		h := few()
		objs := append(h.Objs, api.Obj{Hash: 5}, api.Obj{Hash: 6})
		h.Objs = objs[:32]
		args := []int{0, 0, 11, 13}
		copy(args, x.args)
		prim.Do(h, x.num, x.self, args[:len(x.args)])
		if objs[32].Hash != 5 || objs[33].Hash != 6 || args[2] != 11 || args[3] != 13 {
			t.Fatalf("%d of %d, %v: behind the lists there are %v and %v", x.num, x.self, x.args, objs[32:], args)
		}
	}
}

// TestR4_NoListsInCommon: objects of an argument may have a list in common; those of an answer have not.
func TestR4_NoListsInCommon(t *testing.T) {
	h := few()
	for _, i := range []int{12, 13, 14} {
		h.Objs[i].Slots = h.Objs[28].Slots
	}
	for _, x := range askedOfAll() {
		g, _, _ := prim.Do(h, x.num, x.self, x.args)
		for i := range g.Objs {
			want := copyOf(g)
			want.Objs[i].Slots = nil
			spoilSlots(g.Objs[i].Slots)
			rest := copyOf(g)
			rest.Objs[i].Slots = nil
			wantHeap(t, x, rest, want)
		}
	}
	want := turned(func(h *api.Heap) {
		for _, i := range []int{12, 13, 14} {
			h.Objs[i].Slots = []int{7, 56, -1}
		}
		h.Objs[28].Slots = []int{24, 56, -1}
	})
	wantDo(t, "one of four", h, 9, 56, []int{3, 24}, answer{h: want, v: 24})
}

// TestR5_EmptyIsNil: an empty list is as good as a nil one.
func TestR5_EmptyIsNil(t *testing.T) {
	empty := turned(func(h *api.Heap) {
		for i := range h.Objs {
			if len(h.Objs[i].Slots) == 0 {
				h.Objs[i].Slots = []int{}
			}
		}
	})
	for _, args := range [][]int{nil, {}} {
		for num := 0; num <= 28; num++ {
			for _, self := range []int{7, 24, 34, 40, 56, 60, 64} {
				want := doByWords(few(), num, self, nil)
				wantDo(t, "no arguments", few(), num, self, args, want)
				wantDo(t, "no arguments, no slots", empty, num, self, args, want)
			}
		}
		wantDo(t, "no objects", api.Heap{Cap: 1, Objs: []api.Obj{}}, 13, 1, args, answer{e: api.ErrArg})
	}
}
