package heap

import (
	"anamnesis/api"
	"strings"
	"testing"
)

func TestP3_1_Next(t *testing.T) {
	for last, want := range map[int]int{
		0: 12345, 1: 81414, 2: 150483, 77: 5330658, 15545: 1073689950, 15546: 17195, 1 << 29: 536883257,
		mostOfHash: 1073685100, mostOfHash - 1: 1073616031,
		-1: 0, -2: 0, -mostOfHash: 0, mostOfHash + 1: 0, mostOfHash + 2: 0, 1 << 31: 0, 1 << 32: 0, 1 << 62: 0,
		signed: 0, signed + 1: 0, highest: 0,
	} {
		if n := Next(last); n != want {
			t.Errorf("Next(%d) = %d; want %d", last, n, want)
		}
	}
	for last := 0; last <= mostOfHash; last += 100003 {
		if n := Next(last); n != (last*69069+12345)%1073741824 {
			t.Fatalf("Next(%d) = %d", last, n)
		}
	}
}

func TestP3_1_AllocOfTheExample(t *testing.T) {
	g, v, e := Alloc(api.Heap{Cap: 2, Objs: ofClass(1)}, 0, 0, 2)
	wantErr(t, "two slots", e, api.OK)
	wantHeap(t, "two slots", g, api.Heap{Cap: 2, Last: 12345, Objs: []api.Obj{{}, {Slots: []int{0, 0}, Hash: 12345}}})
	if v != 2 {
		t.Errorf("value %d; want 2", v)
	}
}

func TestP3_1_Alloc(t *testing.T) {
	for _, class := range refsOf(few()) {
		for _, c := range []struct {
			kind, size int
			made       api.Obj
		}{
			{0, 0, api.Obj{}},
			{0, 1, api.Obj{Slots: []int{0}}},
			{0, 3, api.Obj{Slots: []int{0, 0, 0}}},
			{0, 63, api.Obj{Slots: make([]int, 63)}},
			{0, 64, api.Obj{Slots: make([]int, 64)}},
			{1, 0, api.Obj{Kind: 1}},
			{1, 1, api.Obj{Kind: 1, Text: "\x00"}},
			{1, 64, api.Obj{Kind: 1, Text: strings.Repeat("\x00", 64)}},
			{2, 0, api.Obj{Kind: 2}},
		} {
			what := told("Alloc", class, c.kind, c.size)
			h, want := few(), few()
			c.made.Class, c.made.Hash = class, 5330658
			want.Last = 5330658
			want.Objs = append(want.Objs, c.made)
			g, v, e := Alloc(h, class, c.kind, c.size)
			wantErr(t, what, e, api.OK)
			wantHeap(t, what, g, want)
			wantHeap(t, what+": the argument", h, few())
			if v != 12 || !May(g) {
				t.Fatalf("%s: value %d", what, v)
			}
		}
	}
}

// TestP3_1_AllocTillFull goes on to the last object that there is room for, and once more.
func TestP3_1_AllocTillFull(t *testing.T) {
	for _, room := range []int{1, 2, 3, 255, 256} {
		h := api.Heap{Cap: room, Objs: ofClass(1)}
		last := 0
		for i := 1; i < room; i++ {
			last = (last*69069 + 12345) % 1073741824
			g, v, e := Alloc(h, 2*i-2, i%3, 0)
			wantErr(t, told("Alloc", i, room), e, api.OK)
			if v != 2*i || len(g.Objs) != i+1 || g.Last != last || g.Objs[i].Hash != last || g.Objs[i].Class != 2*i-2 || !May(g) {
				t.Fatalf("object %d of %d: value %d, %d objects, last %d", i, room, v, len(g.Objs), g.Last)
			}
			h = g
		}
		before := copyOf(h)
		g, v, e := Alloc(h, 0, 0, 0)
		wantErr(t, told("full", room), e, api.ErrFull)
		wantHeap(t, told("full", room), g, before)
		if v != 0 {
			t.Fatalf("full: value %d; want 0", v)
		}
	}
}

// TestP3_1_AllocErrors takes what is right and what is wrong, each with each: the error is the first one that applies.
func TestP3_1_AllocErrors(t *testing.T) {
	classes := append(refsOf(few()), noRefs()...)
	for _, room := range []int{6, 7} {
		for _, class := range classes {
			for _, kind := range []int{0, 1, 2, 3, -1, 4, 1 << 32, signed, highest} {
				for _, size := range []int{0, 1, 2, 63, 64, 65, -1, 1 << 32, signed, highest} {
					h := few()
					h.Cap = room
					before := copyOf(h)
					want := first(
						errIf(numbered(h, class) < 0, api.ErrRef),
						errIf(kind != 0 && kind != 1 && kind != 2, api.ErrKind),
						errIf(size < 0 || size > 64 || kind == 2 && size != 0, api.ErrSlot),
						errIf(room == 6, api.ErrFull),
					)
					what := told("Alloc", room, class, kind, size)
					g, v, e := Alloc(h, class, kind, size)
					wantErr(t, what, e, want)
					wantHeap(t, what+": the argument", h, before)
					if e != api.OK {
						wantHeap(t, what, g, before)
					}
					if (e == api.OK) != (v == 12) || e != api.OK && v != 0 {
						t.Fatalf("%s: value %d", what, v)
					}
				}
			}
		}
	}
}

func TestP3_1_AllocInNone(t *testing.T) {
	for _, class := range []int{0, 2, 1, -2} {
		g, v, e := Alloc(api.Heap{Cap: 1, Last: 3}, class, 0, 0)
		wantErr(t, told("no objects", class), e, api.ErrRef)
		wantHeap(t, told("no objects", class), g, api.Heap{Cap: 1, Last: 3})
		if v != 0 {
			t.Fatalf("no objects: value %d; want 0", v)
		}
	}
}

func TestP3_2_GetByHand(t *testing.T) {
	for _, c := range []struct {
		v, slot, want int
		e             api.Errno
	}{
		{2, 0, 0, 0}, {2, 1, 7, 0}, {2, 2, 10, 0}, {2, 3, -1, 0}, {10, 0, 10, 0},
		{2, 4, 0, 32}, {2, -1, 0, 32}, {0, 0, 0, 32}, {10, 1, 0, 32}, {2, highest, 0, 32}, {2, signed, 0, 32},
		{4, 0, 0, 33}, {4, 9, 0, 33}, {6, 0, 0, 33}, {8, -1, 0, 33},
		{12, 0, 0, 31}, {12, 9, 0, 31}, {3, 0, 0, 31}, {1, 0, 0, 31}, {-2, 0, 0, 31}, {signed, 0, 0, 31},
	} {
		if x, e := Get(few(), c.v, c.slot); x != c.want || e != c.e {
			t.Errorf("Get(%d, %d) = %d, %d; want %d, %d", c.v, c.slot, x, e, c.want, c.e)
		}
	}
}

func TestP3_2_ByteByHand(t *testing.T) {
	for _, c := range []struct {
		v, i, want int
		e          api.Errno
	}{
		{4, 0, 'a', 0}, {4, 1, 0, 0}, {4, 2, 255, 0}, {4, 3, 'z', 0},
		{4, 4, 0, 32}, {4, -1, 0, 32}, {8, 0, 0, 32}, {8, -1, 0, 32}, {4, highest, 0, 32}, {4, signed, 0, 32},
		{0, 0, 0, 33}, {2, 0, 0, 33}, {2, 9, 0, 33}, {6, 0, 0, 33},
		{12, 0, 0, 31}, {12, 9, 0, 31}, {5, 0, 0, 31}, {-4, 0, 0, 31}, {1<<32 + 4, 0, 0, 31},
	} {
		if x, e := Byte(few(), c.v, c.i); x != c.want || e != c.e {
			t.Errorf("Byte(%d, %d) = %d, %d; want %d, %d", c.v, c.i, x, e, c.want, c.e)
		}
	}
}

func TestP3_2_GetAndByte(t *testing.T) {
	h := few()
	for _, v := range append(refsOf(h), noRefs()...) {
		for _, k := range places() {
			x, e := Get(h, v, k)
			want := placeErr(h, v, 0, k)
			wantErr(t, told("Get", v, k), e, want)
			if want == api.OK && x != h.Objs[v/2].Slots[k] || want != api.OK && x != 0 {
				t.Fatalf("Get(%d, %d) = %d", v, k, x)
			}
			x, e = Byte(h, v, k)
			want = placeErr(h, v, 1, k)
			wantErr(t, told("Byte", v, k), e, want)
			if want == api.OK && x != int(h.Objs[v/2].Text[k]) || want != api.OK && x != 0 {
				t.Fatalf("Byte(%d, %d) = %d", v, k, x)
			}
			wantHeap(t, told("Get, Byte", v, k), h, few())
		}
	}
}

func TestP3_2_Set(t *testing.T) {
	for _, v := range append(refsOf(few()), noRefs()...) {
		for _, slot := range places() {
			for _, x := range append(values(), noValues()...) {
				h, want := few(), few()
				isValue := x%2 != 0 && least <= x && x <= greatest || numbered(h, x) >= 0
				wanted := first(placeErr(h, v, 0, slot), errIf(!isValue, api.ErrRef))
				if wanted == api.OK {
					want.Objs[v/2].Slots[slot] = x
				}
				what := told("Set", v, slot, x)
				g, e := Set(h, v, slot, x)
				wantErr(t, what, e, wanted)
				wantHeap(t, what, g, want)
				wantHeap(t, what+": the argument", h, few())
			}
		}
	}
}

func TestP3_2_SetErrorsByHand(t *testing.T) {
	for _, c := range []struct {
		v, slot, x int
		e          api.Errno
	}{
		{2, 0, 10, 0}, {2, 3, least, 0}, {2, 0, 12, 31}, {2, 3, -2, 31}, {2, 0, greatest + 2, 31},
		{2, 4, 12, 32}, {2, -1, 0, 32}, {0, 0, 0, 32}, {0, 0, 12, 32},
		{4, 0, 12, 33}, {6, 9, 12, 33}, {12, 9, 12, 31}, {3, 0, 0, 31},
	} {
		if _, e := Set(few(), c.v, c.slot, c.x); e != c.e {
			t.Errorf("Set(%d, %d, %d): error %d; want %d", c.v, c.slot, c.x, e, c.e)
		}
	}
}

func TestP3_2_SetByte(t *testing.T) {
	for _, v := range append(refsOf(few()), noRefs()...) {
		for _, i := range places() {
			for _, b := range []int{0, 1, 'q', 127, 128, 254, 255, 256, 257, -1, -256, 512, 1 << 32, signed, highest} {
				h, want := few(), few()
				wanted := first(placeErr(h, v, 1, i), errIf(b < 0 || b > 255, api.ErrSlot))
				if wanted == api.OK {
					o := &want.Objs[v/2]
					o.Text = o.Text[:i] + string([]byte{byte(b)}) + o.Text[i+1:]
				}
				what := told("SetByte", v, i, b)
				g, e := SetByte(h, v, i, b)
				wantErr(t, what, e, wanted)
				wantHeap(t, what, g, want)
				wantHeap(t, what+": the argument", h, few())
			}
		}
	}
}

func TestP3_2_SetByteErrorsByHand(t *testing.T) {
	for _, c := range []struct {
		v, i, b int
		e       api.Errno
	}{
		{4, 0, 0, 0}, {4, 3, 255, 0}, {4, 0, 256, 32}, {4, 3, -1, 32}, {4, 4, 0, 32}, {8, 0, 0, 32},
		{0, 0, 256, 33}, {2, 0, 1, 33}, {6, 9, -1, 33}, {12, 9, 256, 31}, {5, 0, 0, 31},
	} {
		if _, e := SetByte(few(), c.v, c.i, c.b); e != c.e {
			t.Errorf("SetByte(%d, %d, %d): error %d; want %d", c.v, c.i, c.b, e, c.e)
		}
	}
}

// TestP3_2_AtTheMost reads and writes the first and the last of 64 slots, and of 64 bytes.
func TestP3_2_AtTheMost(t *testing.T) {
	h, v, _ := Alloc(few(), 0, 0, 64)
	h, w, e := Alloc(h, 0, 1, 64)
	wantErr(t, "both", e, api.OK)
	for _, k := range []int{0, 63} {
		want := copyOf(h)
		want.Objs[v/2].Slots[k] = 14
		g, e := Set(h, v, k, 14)
		wantErr(t, told("Set", k), e, api.OK)
		wantHeap(t, told("Set", k), g, want)
		if x, e := Get(g, v, k); x != 14 || e != api.OK {
			t.Errorf("slot %d: %d, %d", k, x, e)
		}
		want = copyOf(h)
		want.Objs[w/2].Text = strings.Repeat("\x00", k) + "\xff" + strings.Repeat("\x00", 63-k)
		g, e = SetByte(h, w, k, 255)
		wantErr(t, told("SetByte", k), e, api.OK)
		wantHeap(t, told("SetByte", k), g, want)
		if x, e := Byte(g, w, k); x != 255 || e != api.OK {
			t.Errorf("byte %d: %d, %d", k, x, e)
		}
	}
	_, e = Get(h, v, 64)
	wantErr(t, "slot 64", e, api.ErrSlot)
	_, e = Byte(h, w, 64)
	wantErr(t, "byte 64", e, api.ErrSlot)
}

func TestP3_3_BecomeByHand(t *testing.T) {
	g, e := Become(few(), 2, 4)
	wantErr(t, "Become 2 4", e, api.OK)
	wantHeap(t, "Become 2 4", g, api.Heap{Cap: 8, Last: 77, Objs: []api.Obj{
		{Hash: 10},
		{Class: 2, Kind: 1, Text: "a\x00\xffz", Hash: 12},
		{Slots: []int{0, 7, 10, -1}, Hash: 11},
		{Class: 2, Kind: 2, Bits: 4607182418800017408, Hash: 13},
		{Class: 10, Kind: 1},
		{Class: 10, Slots: []int{10}, Hash: mostOfHash},
	}})
}

func TestP3_3_Become(t *testing.T) {
	all := append(refsOf(few()), noRefs()...)
	for _, v := range all {
		for _, w := range all {
			h, want := few(), few()
			i, k := numbered(h, v), numbered(h, w)
			wanted := errIf(i < 0 || k < 0, api.ErrRef)
			if wanted == api.OK {
				o := want.Objs[i]
				want.Objs[i] = want.Objs[k]
				want.Objs[k] = o
			}
			what := told("Become", v, w)
			g, e := Become(h, v, w)
			wantErr(t, what, e, wanted)
			wantHeap(t, what, g, want)
			wantHeap(t, what+": the argument", h, few())
			if !May(g) {
				t.Fatalf("%s: may not be", what)
			}
		}
	}
}
