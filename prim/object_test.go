package prim_test

import (
	"anamnesis/api"
	"strings"
	"testing"
)

func TestP13_2_SlotByHand(t *testing.T) {
	for k, want := range []int{7, 56, -1} {
		wantDo(t, "slot", few(), 8, 56, []int{2*k + 3}, answer{h: few(), v: want})
	}
	wantDo(t, "the first one of 64", few(), 8, 58, []int{3}, answer{h: few(), v: 0})
	wantDo(t, "the last one of 64", few(), 8, 58, []int{129}, answer{h: few(), v: 62})
	for _, x := range [][2]int{{56, 1}, {56, 9}, {56, -1}, {56, greatest}, {56, least}, {56, 0}, {56, 2}, {56, 6}, {56, 56}, {58, 1}, {58, 131}, {60, 1}, {60, 3}, {34, 3}, {36, 3}, {40, 3}, {7, 3}, {57, 3}} {
		wantDo(t, "no slot", few(), 8, x[0], []int{x[1]}, failure(few()))
	}
}

func TestP13_2_SetSlotByHand(t *testing.T) {
	for _, v := range []int{0, 24, 56, 62, 1, -1, greatest, least} {
		for k := range 3 {
			wantDo(t, "slot", few(), 9, 56, []int{2*k + 3, v}, answer{h: turnedSlot(28, k, v), v: v})
		}
		wantDo(t, "the last one of 64", few(), 9, 58, []int{129, v}, answer{h: turnedSlot(29, 63, v), v: v})
	}
	for _, x := range [][2]int{{56, 1}, {56, 9}, {56, -1}, {56, 2}, {58, 131}, {60, 3}, {34, 3}, {40, 3}, {7, 3}} {
		wantDo(t, "no slot", few(), 9, x[0], []int{x[1], 7}, failure(few()))
	}
	wantDo(t, "a class's", few(), 9, 24, []int{7, 131}, answer{h: turnedSlot(12, 2, 131), v: 131})
	wantDo(t, "a first object's", few(), 9, 6, []int{3, 24}, answer{h: turnedSlot(3, 0, 24), v: 24})
}

func TestP13_2_SizeByHand(t *testing.T) {
	for self, want := range map[int]int{56: 7, 58: 129, 60: 1, 0: 1, 24: 7, 28: 11, 34: 9, 36: 1, 38: 129, 18: 11} {
		wantDo(t, "size", few(), 10, self, nil, answer{h: few(), v: want})
	}
	for _, self := range []int{40, 42, 20, 7, 1, -1} {
		wantDo(t, "no size", few(), 10, self, nil, failure(few()))
	}
}

func TestP13_2_BytesByHand(t *testing.T) {
	for k, want := range []int{195, 1, 511, 245} {
		wantDo(t, "byte", few(), 25, 34, []int{2*k + 3}, answer{h: few(), v: want})
	}
	wantDo(t, "the last one of 64", few(), 25, 38, []int{129}, answer{h: few(), v: 197})
	for _, x := range [][2]int{{34, 1}, {34, 11}, {34, -1}, {34, 2}, {34, 34}, {34, greatest}, {34, least}, {36, 1}, {36, 3}, {38, 131}, {56, 3}, {40, 3}, {7, 3}, {35, 3}} {
		wantDo(t, "no byte", few(), 25, x[0], []int{x[1]}, failure(few()))
		wantDo(t, "no byte", few(), 26, x[0], []int{x[1], 7}, failure(few()))
	}
}

func TestP13_2_SetByteByHand(t *testing.T) {
	text := func(s string) api.Heap { return turnedObj(17, func(o *api.Obj) { o.Text = s }) }
	for _, x := range []struct {
		a, b int
		want string
	}{{3, 511, "\xff\x00\xffz"}, {3, 1, "\x00\x00\xffz"}, {5, 131, "aA\xffz"}, {7, 257, "a\x00\x80z"}, {9, 195, "a\x00\xffa"}, {9, 245, "a\x00\xffz"}} {
		wantDo(t, "byte", few(), 26, 34, []int{x.a, x.b}, answer{h: text(x.want), v: x.b})
	}
	for _, b := range []int{513, 515, -1, -3, 0, 2, 34, greatest, least} {
		wantDo(t, "no byte", few(), 26, 34, []int{3, b}, failure(few()))
	}
	for b := range 256 {
		want := turnedObj(19, func(o *api.Obj) { o.Text = o.Text[:63] + string([]byte{byte(b)}) })
		wantDo(t, "each byte", few(), 26, 38, []int{129, 2*b + 1}, answer{h: want, v: 2*b + 1})
		wantDo(t, "each byte", want, 25, 38, []int{129}, answer{h: want, v: 2*b + 1})
	}
}

func TestP13_2_InstanceByHand(t *testing.T) {
	for class, size := range map[int]int{24: 2, 26: 64, 28: 0, 6: 0, 12: 22} {
		want := api.Obj{Class: class, Slots: make([]int, size), Hash: 5330658}
		h := turned(func(h *api.Heap) { h.Objs, h.Last = append(h.Objs, want), 5330658 })
		wantDo(t, "instance", few(), 11, class, nil, answer{h: h, v: 64})
		if !isSame(h, more(want)) {
			t.Fatal("by words another one")
		}
	}
	for _, self := range []int{0, 30, 32, 34, 40, 56, 7} {
		wantDo(t, "no class", few(), 11, self, nil, failure(few()))
	}
}

// TestP13_2_InstanceOfEachSize turns how many slots a class's instances have.
func TestP13_2_InstanceOfEachSize(t *testing.T) {
	for n := -3; n < 70; n++ {
		h := turnedSlot(12, 2, 2*n+1)
		want := failure(h)
		if n >= 0 && n <= 64 {
			want = answer{h: withMore(h, api.Obj{Class: 24, Slots: make([]int, n)}), v: 64}
		}
		wantDo(t, "each size", h, 11, 24, nil, want)
	}
	wantWords(t, "no number", turnedSlot(12, 2, 4), 11, 24)
	wantWords(t, "a super that is no ref", turnedSlot(12, 0, 1), 11, 24)
	wantWords(t, "a dictionary of bytes", turnedSlot(12, 1, 34), 12, 24, 3)
}

func TestP13_2_SizedInstanceByHand(t *testing.T) {
	for _, class := range classes() {
		for n := range 65 {
			want := answer{h: more(api.Obj{Class: class, Slots: make([]int, n)}), v: 64}
			wantDo(t, "slots", few(), 12, class, []int{2*n + 1}, want)
			want = answer{h: more(api.Obj{Class: class, Kind: 1, Text: strings.Repeat("\x00", n)}), v: 64}
			wantDo(t, "bytes", few(), 27, class, []int{2*n + 1}, want)
		}
		for _, a := range []int{131, 133, -1, -3, 0, 2, 24, greatest, least} {
			wantDo(t, "slots", few(), 12, class, []int{a}, failure(few()))
			wantDo(t, "bytes", few(), 27, class, []int{a}, failure(few()))
		}
	}
	for _, self := range []int{0, 30, 32, 34, 40, 56, 7, 25} {
		wantDo(t, "no class", few(), 12, self, []int{3}, failure(few()))
		wantDo(t, "no class", few(), 27, self, []int{3}, failure(few()))
	}
}

func TestP13_2_ClassByHand(t *testing.T) {
	for self, want := range map[int]int{56: 24, 58: 26, 0: 24, 2: 0, 4: 2, 34: 20, 40: 8, 44: 24, 24: 24, 7: 6, 1: 6, -1: 6, greatest: 6, least: 6} {
		wantDo(t, "class", few(), 13, self, nil, answer{h: few(), v: want})
	}
}

func TestP13_2_SameByHand(t *testing.T) {
	for _, x := range [][3]int{{7, 7, yes}, {7, 9, no}, {24, 24, yes}, {24, 26, no}, {0, 0, yes}, {0, 1, no}, {24, 25, no}, {least, least, yes}, {least, greatest, no}, {10, 16, no}, {42, 1, no}, {44, 44, yes}} {
		wantDo(t, "same", few(), 14, x[0], []int{x[1]}, answer{h: few(), v: x[2]})
	}
}

func TestP13_2_HashByHand(t *testing.T) {
	for self, want := range map[int]int{7: 7, 1: 1, -1: -1, greatest: greatest, least: least, 56: 199, 60: greatest, 0: 1, 34: 9, 40: 41, 22: 155} {
		wantDo(t, "hash", few(), 15, self, nil, answer{h: few(), v: want})
	}
}

func TestP13_2_BecomeByHand(t *testing.T) {
	swapped := func(i, k int) api.Heap {
		return turned(func(h *api.Heap) { h.Objs[i], h.Objs[k] = h.Objs[k], h.Objs[i] })
	}
	for _, x := range [][2]int{{56, 34}, {34, 56}, {24, 62}, {62, 24}, {24, 26}, {40, 34}, {58, 60}, {56, 56}, {24, 24}} {
		wantDo(t, "become", few(), 16, x[0], []int{x[1]}, answer{h: swapped(x[0]/2, x[1]/2), v: x[0]})
	}
	for _, v := range []int{0, 2, 4, 6, 8, 10, 12, 14, 16, 18, 20, 22, 1, 25, 57, -1, greatest} {
		wantDo(t, "no become", few(), 16, 56, []int{v}, failure(few()))
		wantDo(t, "no become", few(), 16, v, []int{56}, failure(few()))
		wantDo(t, "no become", few(), 16, v, []int{v}, failure(few()))
	}
}

// TestP13_2_TillFull goes on to the last object that there is room for, and once more.
func TestP13_2_TillFull(t *testing.T) {
	ways := []struct {
		num, self int
		args      []int
	}{{11, 24, nil}, {12, 26, []int{11}}, {27, 28, []int{13}}, {17, 40, []int{7}}, {18, 7, []int{40}}, {19, 40, []int{40}}, {20, 7, []int{9}}, {24, 9, nil}}
	h := few()
	h.Cap = 256
	for i := 32; i < 256; i++ {
		x := ways[i%len(ways)]
		want := doByWords(h, x.num, x.self, x.args)
		if want.e != api.OK || want.v != 2*i {
			t.Fatalf("by words %d, error %d", want.v, want.e)
		}
		wantDo(t, "one more", h, x.num, x.self, x.args, want)
		h = want.h
	}
	for _, x := range ways {
		wantDo(t, "full", h, x.num, x.self, x.args, answer{h: h, e: api.ErrFull})
	}
}
