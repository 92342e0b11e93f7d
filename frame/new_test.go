package frame

import (
	"anamnesis/api"
	"slices"
	"testing"
)

func TestP12_2_ByHand(t *testing.T) {
	for _, x := range []struct {
		sender, m, receiver, home int
		args, slots               []int
	}{
		{32, 14, -1, 0, []int{9}, contextOf(32, 1, 5, 14, -1, 40, 9)},
		{0, 14, 0, 0, []int{0}, contextOf(0, 1, 5, 14, 0, 40)},
		{0, 14, greatest, 32, []int{38}, contextOf(0, 1, 5, 14, greatest, 32, 38)},
		{2, 14, least, 2, []int{least}, contextOf(2, 1, 5, 14, least, 2, least)},
		{34, 20, 14, 0, nil, contextOf(34, 1, 1, 20, 14, 40)},
		{34, 20, 14, 4, nil, contextOf(34, 1, 1, 20, 14, 4)},
		{38, 26, 38, 0, []int{1, 3, 38, 5}, contextOf(38, 1, 17, 26, 38, 40, 1, 3, 38, 5)},
		{38, 26, 38, 38, []int{0, -3, 2, greatest}, contextOf(38, 1, 17, 26, 38, 38, 0, -3, 2, greatest)},
	} {
		h := few()
		h.Last = 5330658
		h.Objs = append(h.Objs, api.Obj{Class: 12, Slots: x.slots, Hash: 5330658})
		want := answer{h: h, v: 40}
		wantNew(t, "by hand", few(), x.sender, x.m, x.receiver, x.home, x.args, want)
		wantMay(t, "by hand", h, 40, true)
	}
}

// TestP12_2_Example: a new context has sp as many as its method's temporaries.
func TestP12_2_Example(t *testing.T) {
	for m, temps := range map[int]int{14: 2, 20: 0, 26: 8} {
		has, _ := methodByWords(few(), m)
		h, c, e := New(few(), 0, m, 1, 0, make([]int, has.Args))
		if e != api.OK || c != 40 || h.Objs[20].Slots[2] != 2*temps+1 {
			t.Fatalf("New of %d: %d, error %d", m, c, e)
		}
		for k := range temps {
			if v, e := Temp(h, c, k); v != 0 || e != api.OK {
				t.Errorf("temporary %d of %d: %d, error %d", k, m, v, e)
			}
		}
		if _, e := Temp(h, c, temps); e != api.ErrStack {
			t.Errorf("temporary %d of %d: error %d", temps, m, e)
		}
	}
}

// TestP12_2_EachWithEach takes right and wrong arguments, each with each: the error is the one named first.
func TestP12_2_EachWithEach(t *testing.T) {
	for _, room := range []int{20, 21} {
		h := few()
		h.Cap = room
		for _, m := range []int{14, 20, 26, 0, 10, 16, 32, 40, 1, -14, 1<<32 + 14, signed} {
			for _, args := range [][]int{nil, {}, {9}, {38}, {40}, {-2}, {9, 9}, {9, 40}, {1, 2, 3, 4}, {1, 2, 3, 42}, {40, 2, 3, 4}, {1, 2, 3, 4, 5}, make([]int, 9)} {
				for _, sender := range []int{0, 38, 40, 1, -2, highest} {
					for _, home := range []int{0, 38, 40, 3, signed} {
						for _, receiver := range []int{0, 7, 38, 40, greatest + 2} {
							wantNew(t, "each with each", h, sender, m, receiver, home, args, newByWords(h, sender, m, receiver, home, args))
						}
					}
				}
			}
		}
	}
}

// TestP12_2_ErrorsByHand: of one of each error, and of several the one named first.
func TestP12_2_ErrorsByHand(t *testing.T) {
	full := turned(func(h *api.Heap) { h.Cap = 20 })
	for k, x := range []struct {
		h                         api.Heap
		sender, m, receiver, home int
		args                      []int
		e                         api.Errno
	}{
		{few(), 0, 14, 7, 0, []int{9}, api.OK},
		{few(), 0, 16, 7, 0, []int{9}, api.ErrFrame},
		{few(), 0, 32, 7, 0, []int{9}, api.ErrFrame},
		{few(), 0, 14, 7, 0, nil, api.ErrFrame},
		{few(), 0, 14, 7, 0, []int{9, 9}, api.ErrFrame},
		{few(), 0, 20, 7, 0, []int{9}, api.ErrFrame},
		{few(), 0, 20, 7, 0, make([]int, 1<<20), api.ErrFrame},
		{few(), 40, 14, 7, 0, []int{9, 9}, api.ErrFrame},
		{few(), 40, 16, 40, 40, []int{40}, api.ErrFrame},
		{few(), 40, 14, 7, 0, []int{9}, api.ErrRef},
		{few(), 1, 14, 7, 0, []int{9}, api.ErrRef},
		{few(), 0, 14, 40, 0, []int{9}, api.ErrRef},
		{few(), 0, 14, 7, 40, []int{9}, api.ErrRef},
		{few(), 0, 14, 7, 1, []int{9}, api.ErrRef},
		{few(), 0, 14, 7, -2, []int{9}, api.ErrRef},
		{few(), 0, 14, 7, 0, []int{40}, api.ErrRef},
		{few(), 0, 26, 7, 0, []int{1, 1, 1, 40}, api.ErrRef},
		{full, 0, 14, 7, 0, []int{9}, api.ErrFull},
		{full, 0, 14, 7, 0, []int{40}, api.ErrRef},
		{full, 0, 14, 40, 0, []int{9}, api.ErrRef},
		{full, 41, 14, 7, 0, []int{9}, api.ErrRef},
		{full, 0, 14, 7, 0, nil, api.ErrFrame},
		{full, 0, 8, 7, 0, nil, api.ErrFrame},
	} {
		if _, c, e := New(x.h, x.sender, x.m, x.receiver, x.home, x.args); e != x.e || (e == api.OK) != (c == 40) {
			t.Errorf("number %d: %d, error %d; want %d", k, c, e, x.e)
		}
	}
}

// TestP12_2_NoClass: there is no object 6.
func TestP12_2_NoClass(t *testing.T) {
	objs := []api.Obj{{Slots: []int{1, 1, 1, 2, 0}}, {Kind: 1, Text: "\x0e\x00"}}
	for n := 2; n < 10; n++ {
		for _, room := range []int{n, n + 1} {
			h := api.Heap{Cap: room, Objs: append(slices.Clone(objs), make([]api.Obj, n-2)...)}
			want := api.OK
			switch {
			case n < 7:
				want = api.ErrRef
			case room == n:
				want = api.ErrFull
			}
			if _, _, e := New(h, 0, 0, 7, 0, nil); e != want {
				t.Errorf("%d objects, room for %d: error %d; want %d", n, room, e, want)
			}
			wantNew(t, "few objects", h, 0, 0, 7, 0, nil, newByWords(h, 0, 0, 7, 0, nil))
			wantNew(t, "few objects", h, 2, 0, 7, 2, nil, newByWords(h, 2, 0, 7, 2, nil))
			wantNew(t, "few objects", h, 2, 2, 7, 2, nil, newByWords(h, 2, 2, 7, 2, nil))
		}
	}
	wantNew(t, "no objects", api.Heap{Cap: 1}, 0, 0, 1, 0, nil, answer{h: api.Heap{Cap: 1}, e: api.ErrFrame})
}

// TestP12_2_TillFull goes on to the last object that there is room for, and once more.
func TestP12_2_TillFull(t *testing.T) {
	h := few()
	h.Cap = 256
	sender := 0
	for i := 20; i < 256; i++ {
		m := methods()[i%3]
		has, _ := methodByWords(h, m)
		args := manyLits()[60 : 60+has.Args]
		want := newByWords(h, sender, m, 2*i-2, 0, args)
		wantNew(t, "one more", h, sender, m, 2*i-2, 0, args, want)
		wantMay(t, "one more", want.h, 2*i, true)
		h, sender = want.h, want.v
	}
	wantNew(t, "full", h, sender, 20, 7, 0, nil, answer{h: h, e: api.ErrFull})
}

// TestP12_2_MayNotBe: of a heap that may not be all errors are ErrFrame.
func TestP12_2_MayNotBe(t *testing.T) {
	for name, h := range mayNotBe() {
		for _, m := range []int{14, 20, 40, -2} {
			for _, sender := range []int{0, 40, 1} {
				wantNew(t, name, h, sender, m, 7, sender, []int{9}, answer{h: h, e: api.ErrFrame})
				wantNew(t, name, h, sender, m, 40, 0, nil, answer{h: h, e: api.ErrFrame})
			}
		}
	}
}
