package proc_test

import (
	"anamnesis/api"
	"anamnesis/proc"
	"slices"
	"testing"
)

func TestP14_2_InsertByHand(t *testing.T) {
	for _, x := range []struct {
		first, p int
		h        api.Heap
		want     int
	}{
		// Into nothing: it alone.
		{0, 42, few(), 42}, {0, 46, few(), 46}, {0, 32, few(), 32},
		// Into 24 (7), 26 (5), 28 (5), 30 (2), 32 (0).
		{24, 42, nexts(28, 42, 42, 30), 24}, // 5: behind those of 5
		{24, 44, nexts(32, 44), 24},         // 0: behind all
		{24, 46, nexts(24, 46, 46, 26), 24}, // 7: behind that of 7
		{24, 48, nexts(30, 48, 48, 32), 24}, // 2
		{24, 50, nexts(28, 50, 50, 30), 24}, // 3
		{24, 40, nexts(28, 40, 40, 30), 24}, // 4: that was the last one of another list, which leads on into this one now
		// Into 26 (5), and so on.
		{26, 46, nexts(46, 26), 46},
		{26, 42, nexts(28, 42, 42, 30), 26},
		// Into 34 (1), 36 (6), 38 (1), 40 (4): ahead of the first one of a lesser priority, whatever comes behind it.
		{34, 42, nexts(42, 34), 42},
		{34, 44, nexts(40, 44), 34},
		{34, 46, nexts(46, 34), 46},
		{36, 42, nexts(36, 42, 42, 38), 36},
		{36, 46, nexts(46, 36), 46},
		{38, 48, nexts(48, 38), 48},
		// Into one alone.
		{32, 44, nexts(32, 44), 32},
		{32, 48, nexts(48, 32), 48},
		{46, 42, nexts(46, 42), 46},
		{42, 46, nexts(46, 42), 46},
	} {
		wantInsert(t, "few", few(), x.first, x.p, answer{h: x.h, first: x.want})
	}
}

func TestP14_2_AppendByHand(t *testing.T) {
	for _, x := range []struct {
		first, p int
		h        api.Heap
		want     int
	}{
		{0, 42, few(), 42}, {0, 46, few(), 46}, {0, 32, few(), 32},
		{24, 42, nexts(32, 42), 24}, {24, 44, nexts(32, 44), 24}, {24, 46, nexts(32, 46), 24}, {24, 40, nexts(32, 40), 24},
		{34, 42, nexts(40, 42), 34}, {36, 46, nexts(40, 46), 36}, {38, 48, nexts(40, 48), 38},
		{32, 46, nexts(32, 46), 32}, {42, 46, nexts(42, 46), 42},
	} {
		wantAppend(t, "few", few(), x.first, x.p, answer{h: x.h, first: x.want})
	}
}

// TestP14_2_WrongByHand: whatever is wrong, Insert and Append tell it alike; what is wrong with the list comes first.
func TestP14_2_WrongByHand(t *testing.T) {
	for _, x := range []struct {
		what     string
		first, p int
		e        api.Errno
	}{
		{"no process", 24, 64, noProcess}, {"no process", 0, 64, noProcess}, {"a semaphore", 24, 88, noProcess}, {"a class", 24, 14, noProcess},
		{"object 0", 24, 0, noProcess}, {"object 0", 0, 0, noProcess}, {"no object", 24, 120, noProcess}, {"no ref", 0, 43, noProcess}, {"no value", 24, -2, noProcess},
		{"the first one", 24, 24, noProcess}, {"within", 24, 28, noProcess}, {"the last one, whose next is 0", 24, 32, noProcess}, {"alone", 42, 42, noProcess},
		{"in another list", 24, 34, noProcess}, {"in another list", 0, 34, noProcess}, {"ahead of this list", 26, 24, noProcess}, {"of a ring", 24, 52, noProcess}, {"next to itself", 24, 58, noProcess}, {"on the way to no process", 24, 60, noProcess},
		{"a ring", 52, 42, noList}, {"a ring", 58, 42, noList}, {"into a ring", 56, 42, noList}, {"to no process", 60, 42, noList}, {"to no process", 62, 42, noList},
		{"no process", 64, 42, noList}, {"no process, twice", 64, 64, noList}, {"no object", 120, 42, noList}, {"no ref", 1, 42, noList}, {"no value", -2, 0, noList}, {"a ring, twice", 58, 58, noList},
	} {
		wantInsert(t, x.what, few(), x.first, x.p, wrong(few(), x.e))
		wantAppend(t, x.what, few(), x.first, x.p, wrong(few(), x.e))
	}
}

// TestP14_2_EachPriority: of each priority into lists of each two of them.
func TestP14_2_EachPriority(t *testing.T) {
	for a := range 8 {
		for b := range 8 {
			for c := range 8 {
				h := nexts(42, 44)
				h.Objs[21].Slots[2], h.Objs[22].Slots[2], h.Objs[23].Slots[2] = 2*a+1, 2*b+1, 2*c+1
				want := []int{42, 44, 46}
				switch {
				case a < c:
					want = []int{46, 42, 44}
				case b < c:
					want = []int{42, 46, 44}
				}
				g, first, e := proc.Insert(h, 42, 46)
				if l, el := proc.List(g, first); e != api.OK || el != api.OK || !slices.Equal(l, want) {
					t.Fatalf("%d into %d, %d: %v, errors %d, %d; want %v", c, a, b, l, e, el, want)
				}
				wantWords(t, "each priority", h, 42, 46)
			}
		}
	}
}

// TestP14_2_NextAlone counts: neither a process's context nor its list is asked for, or changed.
func TestP14_2_NextAlone(t *testing.T) {
	for _, list := range []int{0, 2, 24, 42, 64, 88, 90, 118} {
		for _, slot := range []int{1, 3} {
			h := turnedSlot(21, slot, list)
			want := copyOf(h)
			want.Objs[14].Slots[0], want.Objs[21].Slots[0] = 42, 30
			wantInsert(t, "another list", h, 24, 42, answer{h: want, first: 24})
			want = copyOf(h)
			want.Objs[16].Slots[0] = 42
			wantAppend(t, "another list", h, 24, 42, answer{h: want, first: 24})
		}
	}
}

// TestP14_2_ObjectZero: where object 0 is a process, no error is named for it: it is linked as others are, but a list that it is first of is nothing.
func TestP14_2_ObjectZero(t *testing.T) {
	h := turned(func(h *api.Heap) { h.Objs[0] = process(0, 2, 11, 0) })
	linked := copyOf(h)
	linked.Objs[0].Slots[0] = 30
	wantInsert(t, "within", h, 30, 0, answer{h: linked})
	wantAppend(t, "behind all", h, 24, 0, answer{h: h, first: 24})
	wantInsert(t, "alone", h, 0, 0, answer{h: h})
	wantAppend(t, "alone", h, 0, 0, answer{h: h})
	wantInsert(t, "with a next", linked, 24, 0, wrong(linked, noProcess))
}

// TestP14_2_EachWithEach takes right and wrong arguments, each with each: the error is the one named first.
func TestP14_2_EachWithEach(t *testing.T) {
	for _, first := range all() {
		wantWords(t, "few", few(), first, all()...)
	}
}

func TestP14_2_MayNotBe(t *testing.T) {
	for name, h := range mayNotBe() {
		for _, first := range []int{0, 24, 34, 42, 52, 58, 64, 120, 1, -2} {
			for _, p := range []int{0, 42, 46, 24, 64, 120, 1, -2} {
				wantInsert(t, name, h, first, p, answer{e: api.ErrArg})
				wantAppend(t, name, h, first, p, answer{e: api.ErrArg})
			}
		}
	}
}

// TestP14_2_Long: a list of as many as a heap has room for.
func TestP14_2_Long(t *testing.T) {
	h, l := long(256)
	h.Objs[254].Slots[0] = 0
	last := l[len(l)-1]
	for prio, want := range map[int][]int{15: append([]int{last}, l[:243]...), 7: l, 1: l} {
		h.Objs[255].Slots[2] = prio
		g, first, e := proc.Insert(h, 24, last)
		wantList(t, "long", g, first, want, api.OK)
		if e != api.OK {
			t.Errorf("error %d", e)
		}
		wantWords(t, "long", h, 24, last, 24, 508)
	}
}
