package heap

import (
	"anamnesis/api"
	"testing"
)

// TestP3_4_WrittenIsRead writes each value into each slot, and each byte into each place, and reads all there is.
func TestP3_4_WrittenIsRead(t *testing.T) {
	h := few()
	for i, o := range h.Objs {
		for k := range o.Slots {
			for _, x := range values() {
				g, _ := Set(h, 2*i, k, x)
				wantRead(t, told("Set", 2*i, k, x), h, g, 2*i, k, x)
			}
		}
		for k := range len(o.Text) {
			for b := range 256 {
				g, _ := SetByte(h, 2*i, k, b)
				wantRead(t, told("SetByte", 2*i, k, b), h, g, 2*i, k, b)
			}
		}
	}
}

// wantRead tells whether all of g is read as it is in h, but x in place at of v.
func wantRead(t *testing.T, what string, h, g api.Heap, v, at, x int) {
	t.Helper()
	for i, o := range h.Objs {
		w := 2 * i
		for k, want := range o.Slots {
			if w == v && k == at {
				want = x
			}
			if got, e := Get(g, w, k); got != want || e != api.OK {
				t.Fatalf("%s: slot %d of %d is %d, %d; want %d", what, k, w, got, e, want)
			}
		}
		for k := range len(o.Text) {
			want := int(o.Text[k])
			if w == v && k == at {
				want = x
			}
			if got, e := Byte(g, w, k); got != want || e != api.OK {
				t.Fatalf("%s: byte %d of %d is %d, %d; want %d", what, k, w, got, e, want)
			}
		}
	}
}

func TestP3_4_TwiceBecome(t *testing.T) {
	for _, v := range refsOf(few()) {
		for _, w := range refsOf(few()) {
			once, _ := Become(few(), v, w)
			for _, turn := range [][2]int{{v, w}, {w, v}} {
				twice, e := Become(once, turn[0], turn[1])
				wantErr(t, told("Become", v, w), e, api.OK)
				wantHeap(t, told("Become", v, w), twice, few())
			}
		}
		self, e := Become(few(), v, v)
		wantErr(t, told("Become", v, v), e, api.OK)
		wantHeap(t, told("Become", v, v), self, few())
	}
}

// TestP3_4_ManyCalls goes on from heap to heap, and holds each one against what was written by hand.
func TestP3_4_ManyCalls(t *testing.T) {
	h, want := api.Heap{Cap: 20, Objs: ofClass(1)}, api.Heap{Cap: 20, Objs: ofClass(1)}
	seed := 1
	draw := func(n int) int {
		seed = (seed*1103515245 + 12345) & (1<<31 - 1)
		return (seed >> 8) % n
	}
	for range 5000 {
		v, w := 2*draw(len(h.Objs)+1), 2*draw(len(h.Objs)+1)
		k, size := draw(9), draw(9)
		var e, wanted api.Errno
		switch draw(4) {
		case 0:
			kind := k % 3
			h, _, e = Alloc(h, v, kind, size)
			wanted = first(errIf(numbered(want, v) < 0, api.ErrRef), errIf(kind == 2 && size != 0, api.ErrSlot), errIf(len(want.Objs) == 20, api.ErrFull))
			if wanted == api.OK {
				want.Last = (want.Last*69069 + 12345) % 1073741824
				o := api.Obj{Class: v, Kind: kind, Hash: want.Last}
				if kind == 0 {
					o.Slots = make([]int, size)
				}
				if kind == 1 {
					o.Text = "\x00\x00\x00\x00\x00\x00\x00\x00"[:size]
				}
				want.Objs = append(want.Objs, o)
			}
		case 1:
			h, e = Set(h, v, k, w)
			wanted = first(placeErr(want, v, 0, k), errIf(numbered(want, w) < 0, api.ErrRef))
			if wanted == api.OK {
				want.Objs[v/2].Slots[k] = w
			}
		case 2:
			h, e = SetByte(h, v, k, w)
			wanted = placeErr(want, v, 1, k)
			if wanted == api.OK {
				o := &want.Objs[v/2]
				o.Text = o.Text[:k] + string([]byte{byte(w)}) + o.Text[k+1:]
			}
		case 3:
			h, e = Become(h, v, w)
			wanted = errIf(numbered(want, v) < 0 || numbered(want, w) < 0, api.ErrRef)
			if wanted == api.OK {
				want.Objs[v/2], want.Objs[w/2] = want.Objs[w/2], want.Objs[v/2]
			}
		}
		wantErr(t, "one of many calls", e, wanted)
		wantHeap(t, "one of many calls", h, want)
		if !May(h) {
			t.Fatal("one of many calls: may not be")
		}
	}
	if len(h.Objs) != 20 {
		t.Fatalf("only %d objects were made", len(h.Objs))
	}
}

// answers are the heaps that calls answer of h, with errors and without.
func answers(h api.Heap) map[string]api.Heap {
	l := map[string]api.Heap{}
	for _, kind := range []int{0, 1, 2} {
		l[told("Alloc", kind)], _, _ = Alloc(h, 0, kind, 0)
	}
	l["Alloc of slots"], _, _ = Alloc(h, 0, 0, 3)
	l["Alloc of no class"], _, _ = Alloc(h, 1, 0, 3)
	l["Alloc of no kind"], _, _ = Alloc(h, 0, 3, 3)
	l["Alloc of no size"], _, _ = Alloc(h, 0, 0, 65)
	l["Set"], _ = Set(h, 2, 3, 9)
	l["Set of what was there"], _ = Set(h, 2, 1, 7)
	l["Set of no object"], _ = Set(h, 12, 0, 0)
	l["Set of bytes"], _ = Set(h, 4, 0, 0)
	l["Set of no slot"], _ = Set(h, 2, 4, 0)
	l["Set of no value"], _ = Set(h, 2, 0, -2)
	l["SetByte"], _ = SetByte(h, 4, 0, 9)
	l["SetByte of no object"], _ = SetByte(h, 12, 0, 9)
	l["SetByte of slots"], _ = SetByte(h, 2, 0, 9)
	l["SetByte of no byte"], _ = SetByte(h, 4, 0, 256)
	l["Become"], _ = Become(h, 2, 10)
	l["Become of itself"], _ = Become(h, 2, 2)
	l["Become of no object"], _ = Become(h, 2, 12)
	h.Cap = len(h.Objs)
	l["Alloc, full"], _, _ = Alloc(h, 0, 0, 0)
	return l
}

// spoil writes into all memory that the lists of h have, beyond their ends, too.
func spoil(h api.Heap) {
	for i := range h.Objs {
		spoilSlots(h.Objs[i].Slots)
	}
	all := h.Objs[:cap(h.Objs)]
	for i := range all {
		all[i] = api.Obj{Class: 99, Kind: 99, Text: "spoilt", Bits: 99, Hash: 99}
	}
}

func spoilSlots(l []int) {
	l = l[:cap(l)]
	for i := range l {
		l[i] = 999
	}
}

// TestR4_NoSharedMemory: neither who writes into an answer changes an argument, nor the other way round.
func TestR4_NoSharedMemory(t *testing.T) {
	for name := range answers(few()) {
		h := few()
		spoil(answers(h)[name])
		wantHeap(t, name+": the argument", h, few())

		h = few()
		g := answers(h)[name]
		want := copyOf(g)
		spoil(h)
		wantHeap(t, name+": the answer", g, want)
	}
}

// TestR4_NoListsInCommon: objects of an argument may have a list in common; those of an answer have not.
func TestR4_NoListsInCommon(t *testing.T) {
	h := few()
	for _, i := range []int{0, 1, 5} {
		h.Objs[i].Slots = h.Objs[1].Slots
	}
	for name, g := range answers(h) {
		for i := range g.Objs {
			want := copyOf(g)
			want.Objs[i].Slots = nil
			spoilSlots(g.Objs[i].Slots)
			rest := copyOf(g)
			rest.Objs[i].Slots = nil
			wantHeap(t, told(name, i), rest, want)
		}
	}
	before := few().Objs[1].Slots
	g, e := Set(h, 2, 0, 9)
	wantErr(t, "Set", e, api.OK)
	if g.Objs[1].Slots[0] != 9 || g.Objs[0].Slots[0] != before[0] || g.Objs[5].Slots[0] != before[0] {
		t.Error("Set went into other objects, too")
	}
}

// TestR5_EmptyIsNil: an empty list is as good as a nil one.
func TestR5_EmptyIsNil(t *testing.T) {
	h := few()
	for _, i := range []int{0, 2, 3, 4} {
		h.Objs[i].Slots = []int{}
	}
	other := answers(few())
	for name, g := range answers(h) {
		wantHeap(t, name, g, other[name])
	}
	for _, v := range append(refsOf(h), noRefs()...) {
		x, e := Get(h, v, 0)
		y, f := Get(few(), v, 0)
		if x != y || e != f {
			t.Errorf("Get(%d, 0) = %d, %d, and %d, %d of empty lists", v, y, f, x, e)
		}
	}
	g, _, e := Alloc(api.Heap{Cap: 1, Objs: []api.Obj{}}, 0, 0, 0)
	wantErr(t, "no objects", e, api.ErrRef)
	wantHeap(t, "no objects", g, api.Heap{Cap: 1})
}
