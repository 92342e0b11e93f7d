package proc_test

import (
	"anamnesis/api"
	"testing"
)

func TestP14_3_TakeByHand(t *testing.T) {
	for _, x := range []struct {
		first, want int
	}{
		{24, 26}, {26, 28}, {30, 32}, {32, 0}, {34, 36}, {38, 40}, {40, 0}, {42, 0}, {46, 0},
	} {
		wantTake(t, "few", few(), x.first, answer{h: nexts(x.first, 0), p: x.first, first: x.want})
	}
	for _, first := range []int{0, 2, 14, 52, 54, 56, 58, 60, 62, 64, 70, 88, 90, 120, 1, 25, -2, -24, signed, highest} {
		wantTake(t, "no list, or nothing in it", few(), first, wrong(few(), noList))
	}
}

func TestP14_3_DropByHand(t *testing.T) {
	for _, x := range []struct {
		first, p int
		h        api.Heap
		want     int
	}{
		{24, 24, nexts(24, 0), 26},
		{24, 26, nexts(24, 28, 26, 0), 24},
		{24, 28, nexts(26, 30, 28, 0), 24},
		{24, 30, nexts(28, 32, 30, 0), 24},
		{24, 32, nexts(30, 0), 24},
		{34, 34, nexts(34, 0), 36},
		{34, 38, nexts(36, 40, 38, 0), 34},
		{38, 40, nexts(38, 0), 38},
		{40, 40, few(), 0}, {42, 42, few(), 0}, {46, 46, few(), 0},
	} {
		wantDrop(t, "few", few(), x.first, x.p, answer{h: x.h, first: x.want})
	}
	for _, x := range []struct {
		what     string
		first, p int
		e        api.Errno
	}{
		{"ahead of it", 26, 24, noProcess}, {"in another list", 24, 34, noProcess}, {"in none", 24, 42, noProcess}, {"in none", 0, 42, noProcess}, {"object 0", 0, 0, noProcess}, {"object 0, that a list ends with", 24, 0, noProcess},
		{"no process", 24, 64, noProcess}, {"a semaphore that has the list", 24, 90, noProcess}, {"no object", 24, 120, noProcess}, {"no ref", 24, 25, noProcess}, {"no value", 0, -2, noProcess}, {"of a ring", 24, 52, noProcess},
		{"a ring", 52, 52, noList}, {"a ring", 58, 58, noList}, {"into a ring", 56, 56, noList}, {"to no process", 60, 60, noList}, {"no process", 64, 64, noList}, {"no object", 120, 120, noList}, {"no ref", 1, 42, noList}, {"no value", -2, -2, noList},
	} {
		wantDrop(t, x.what, few(), x.first, x.p, wrong(few(), x.e))
	}
}

// TestP14_3_NextAlone changes: whoever is taken, or dropped, keeps the context, the priority, and the list.
func TestP14_3_NextAlone(t *testing.T) {
	for _, v := range []int{0, 2, 24, 42, 64, 90, 118} {
		for _, slot := range []int{1, 3} {
			h := turnedSlot(13, slot, v)
			want := copyOf(h)
			want.Objs[12].Slots[0], want.Objs[13].Slots[0] = 28, 0
			wantDrop(t, "kept", h, 24, 26, answer{h: want, first: 24})
			want = copyOf(h)
			want.Objs[13].Slots[0] = 0
			wantTake(t, "kept", h, 26, answer{h: want, p: 26, first: 28})
		}
	}
}

// TestP14_3_ObjectZero: where it is a process, it is in no list, and lists end there, all the same.
func TestP14_3_ObjectZero(t *testing.T) {
	for _, next := range []int{0, 24, 42} {
		h := turned(func(h *api.Heap) { h.Objs[0] = process(next, 2, 11, 0) })
		wantTake(t, "object 0", h, 0, wrong(h, noList))
		wantDrop(t, "object 0", h, 0, 0, wrong(h, noProcess))
		wantDrop(t, "object 0", h, 24, 0, wrong(h, noProcess))
		wantTake(t, "one alone", h, 32, answer{h: h, p: 32})
		wantDrop(t, "one alone", h, 32, 32, answer{h: h})
	}
}

func TestP14_3_MayNotBe(t *testing.T) {
	for name, h := range mayNotBe() {
		for _, first := range []int{0, 24, 34, 42, 52, 58, 64, 120, 1, -2} {
			wantTake(t, name, h, first, answer{e: api.ErrArg})
			for _, p := range []int{0, 24, 32, 42, 64, 120, 1, -2} {
				wantDrop(t, name, h, first, p, answer{e: api.ErrArg})
			}
		}
	}
}

// TestP14_3_Long: from a list of as many as a heap has room for.
func TestP14_3_Long(t *testing.T) {
	h, l := long(256)
	wantTake(t, "long", h, 24, takeByWords(h, 24))
	for _, p := range []int{24, 26, 256, 258, 508, 510, 22, 512} {
		wantDrop(t, "long", h, 24, p, dropByWords(h, 24, p))
	}
	g := h
	wantTake(t, "none", g, 22, wrong(g, noList))
	wantList(t, "long", g, 24, l, api.OK)
}
