package look

import (
	"anamnesis/api"
	"slices"
	"testing"
)

func TestP9_May(t *testing.T) {
	for _, c := range classes() {
		wantMay(t, "few", few(), c, true)
	}
	for _, c := range append(others(), noValues()...) {
		wantMay(t, "few", few(), c, false)
	}
	each(t, func(h api.Heap) {
		for _, c := range some(h) {
			wantMay(t, "one of many", h, c, isClassByWords(h, c))
		}
	})
}

// TestP9_MayOfEach turns each of the things that make a class.
func TestP9_MayOfEach(t *testing.T) {
	slot := func(k, v int) api.Heap { return turnedObj(1, func(o *api.Obj) { o.Slots[k] = v }) }
	for v, want := range map[int]bool{0: true, 2: true, 14: true, 20: true, 24: true, 28: true, 1: false, 5: false, -1: false, greatest: false} {
		wantMay(t, "super", slot(0, v), 2, want)
	}
	for v, want := range map[int]bool{0: true, 2: true, 14: true, 20: false, 24: false, 26: false, 28: true, 1: false, 5: false, -1: false, least: false} {
		wantMay(t, "dictionary", slot(1, v), 2, want)
	}
	for v, want := range map[int]bool{1: true, 3: true, 127: true, 129: true, 131: false, -1: false, 0: false, 2: false, 28: false, greatest: false, least: false} {
		wantMay(t, "size", slot(2, v), 2, want)
	}
	for n := range 65 {
		h := turnedObj(1, func(o *api.Obj) { o.Slots = append(o.Slots, make([]int, 61)...)[:n] })
		wantMay(t, "slots", h, 2, n >= 3)
	}
	for text, want := range map[string]bool{"": false, "abc": false, "\x00\x00\x01": false} {
		h := turnedObj(1, func(o *api.Obj) { *o = api.Obj{Kind: 1, Text: text} })
		wantMay(t, "a text", h, 2, want)
	}
}

// TestP9_MayOfFirst: object 0 may be a class, too; and as a dictionary it is an empty one, whatever it has, and of whatever kind.
func TestP9_MayOfFirst(t *testing.T) {
	first := func(o api.Obj) api.Heap { return turned(func(h *api.Heap) { h.Objs[0] = o }) }
	wantMay(t, "object 0", first(api.Obj{Slots: []int{0, 0, 1}}), 0, true)
	wantMay(t, "object 0", first(api.Obj{Slots: []int{0, 0, 131}}), 0, false)
	for _, o := range firsts() {
		wantMay(t, "dictionary of object 0", first(o), 8, true)
		wantMay(t, "super of object 0", first(o), 6, true)
		wantMay(t, "object 0", first(o), 0, false)
	}
}

// TestP9_MayOfDictionary: any other object than object 0 must be of Kind Pointers, even if it has as little.
func TestP9_MayOfDictionary(t *testing.T) {
	for kind, want := range []bool{true, false, false} {
		h := turned(func(h *api.Heap) {
			h.Objs[1].Slots[1] = 28
			h.Objs[14] = api.Obj{Kind: kind}
		})
		wantMay(t, "an empty dictionary", h, 2, want)
		wantUnder(t, "an empty dictionary", h, 2, 2, want)
		wantUnder(t, "an empty dictionary", h, 8, 2, want)
	}
}

// TestP9_MayNotBe: of a heap that may not be nothing is told but that.
func TestP9_MayNotBe(t *testing.T) {
	for name, h := range mayNotBe() {
		for _, v := range all() {
			wantMay(t, name, h, v, false)
			wantOf(t, name, h, v, 0, api.ErrArg)
			for _, w := range []int{0, v, 2, 4, 20, 1, -2, highest} {
				wantFind(t, name, h, v, w, nothing(api.ErrArg))
				wantUnder(t, name, h, v, w, false)
			}
		}
	}
}

func TestP9_1_Example(t *testing.T) {
	if c, e := Of(few(), 7); c != 6 || e != api.OK {
		t.Errorf("Of 7: %d, %d", c, e)
	}
}

func TestP9_1_Of(t *testing.T) {
	want := []int{6, 6, 8, 2, 6, 18, 18, 0, 26, 0, 2, 4, 28, 0, 0}
	for i, class := range want {
		wantOf(t, "few", few(), 2*i, class, api.OK)
	}
	for _, v := range []int{1, 3, 7, 31, -1, -3, -31, 1<<30 + 1, greatest, least} {
		wantOf(t, "few", few(), v, 6, api.OK)
	}
	for _, v := range noValues() {
		wantOf(t, "few", few(), v, 0, api.ErrRef)
	}
}

// TestP9_1_FewObjects: a SmallInteger's class is the ref of object 3, though there be none.
func TestP9_1_FewObjects(t *testing.T) {
	for n := range 6 {
		h := api.Heap{Cap: 6, Objs: make([]api.Obj, n)}
		for i := range 7 {
			wantOf(t, "few objects", h, 2*i+1, 6, api.OK)
			if i < n {
				wantOf(t, "few objects", h, 2*i, 0, api.OK)
			} else {
				wantOf(t, "few objects", h, 2*i, 0, api.ErrRef)
			}
		}
	}
	h := api.Heap{Cap: 256, Objs: make([]api.Obj, 256)}
	h.Objs[255].Class = 508
	wantOf(t, "the last one", h, 510, 508, api.OK)
	wantOf(t, "behind the last one", h, 512, 0, api.ErrRef)
}

func TestP9_2_ByHand(t *testing.T) {
	for _, c := range []struct {
		class, sel int
		want       found
	}{
		{2, 20, found{31, 2, api.OK}}, // the first pair of two
		{2, 22, found{33, 2, api.OK}}, // hides that of 4
		{2, 24, found{43, 4, api.OK}}, // a last one alone does not count
		{2, 7, found{45, 4, api.OK}},
		{2, 26, found{0, 6, api.OK}}, // what goes with it may be any value
		{2, 1, found{53, 6, api.OK}},
		{2, 28, found{28, 6, api.OK}},
		{2, greatest, found{least, 6, api.OK}},
		{2, least, nothing(api.ErrNone)},
		{2, 31, nothing(api.ErrNone)}, // what goes with a selector is none
		{4, 20, found{55, 6, api.OK}},
		{4, 22, found{41, 4, api.OK}},
		{4, 41, nothing(api.ErrNone)},
		{6, 22, nothing(api.ErrNone)},
		{6, 24, found{51, 6, api.OK}},
		{8, 20, found{31, 2, api.OK}}, // what object 0 has does not count
		{8, 26, found{0, 6, api.OK}},
		{6, 101, nothing(api.ErrNone)},
		{16, 20, found{31, 16, api.OK}},
		{16, 24, nothing(api.ErrNone)},
		{18, 20, found{31, 18, api.OK}},
		{18, 24, nothing(api.ErrClass)},
		{18, 3, nothing(api.ErrClass)},
		{20, 20, nothing(api.ErrClass)},
		{0, 20, nothing(api.ErrClass)},
		{10, 20, nothing(api.ErrClass)},
		{7, 20, nothing(api.ErrClass)},
		{30, 20, nothing(api.ErrClass)},
		{-2, 20, nothing(api.ErrClass)},
	} {
		wantFind(t, "few", few(), c.class, c.sel, c.want)
	}
}

func TestP9_2_ByWords(t *testing.T) {
	each(t, func(h api.Heap) {
		for _, c := range some(h) {
			for _, sel := range some(h) {
				wantFind(t, "one of many", h, c, sel, findByWords(h, c, sel, 64))
			}
		}
	})
	for _, c := range all() {
		for _, sel := range all() {
			wantFind(t, "few", few(), c, sel, findByWords(few(), c, sel, 64))
		}
	}
}

// TestP9_2_NoValue: what is no value is no selector.
func TestP9_2_NoValue(t *testing.T) {
	for _, sel := range noValues() {
		for _, c := range []int{2, 4, 6, 8, 16} {
			wantFind(t, "few", few(), c, sel, nothing(api.ErrNone))
		}
		wantFind(t, "few", few(), 18, sel, nothing(api.ErrClass))
		wantFind(t, "few", few(), 20, sel, nothing(api.ErrClass))
	}
}

// TestP9_2_NoDictionary: that of object 0 is empty, whatever it has, and even where it is a class, nobody comes to it from below.
func TestP9_2_NoDictionary(t *testing.T) {
	h := turnedObj(0, func(o *api.Obj) { o.Slots = []int{4, 10, 3} })
	wantFind(t, "object 0 is a class", h, 0, 20, found{31, 0, api.OK})
	wantFind(t, "object 0 is a class", h, 0, 24, found{43, 4, api.OK})
	wantFind(t, "object 0 is a class", h, 6, 22, nothing(api.ErrNone))
	wantFind(t, "object 0 is a dictionary", h, 8, 4, nothing(api.ErrNone))
	h.Objs[0].Slots = slices.Repeat([]int{20, 22}, 32)
	wantFind(t, "object 0 is full", h, 8, 20, found{31, 2, api.OK})
	h.Objs[4].Slots[0] = 0
	wantFind(t, "object 0 is full", h, 8, 20, nothing(api.ErrNone))
}

// TestP9_2_FirstOfEachKind: one comes through a class with the dictionary of object 0 to those above it, of whatever kind object 0 is.
func TestP9_2_FirstOfEachKind(t *testing.T) {
	for _, o := range firsts() {
		h := turned(func(h *api.Heap) {
			h.Objs[0] = o
			h.Objs[2].Slots[1] = 0
		})
		wantFind(t, "below", h, 8, 20, found{31, 2, api.OK})
		wantFind(t, "between", h, 2, 24, found{51, 6, api.OK})
		wantFind(t, "between", h, 4, 22, nothing(api.ErrNone))
		h.Objs[3].Slots[1] = 0
		wantFind(t, "above", h, 2, 22, found{33, 2, api.OK})
		wantFind(t, "above", h, 2, 24, nothing(api.ErrNone))
		for _, sel := range all() {
			wantFind(t, "nothing but that", h, 4, sel, nothing(api.ErrNone))
			wantFind(t, "nothing but that", h, 6, sel, nothing(api.ErrNone))
		}
	}
}

// TestP9_2_WholeDictionary: each pair counts, of a dictionary of any length.
func TestP9_2_WholeDictionary(t *testing.T) {
	for n := range 65 {
		h := turned(func(h *api.Heap) {
			h.Objs[3].Slots[1] = 28
			for k := range n {
				h.Objs[14].Slots = append(h.Objs[14].Slots, 2*k+1)
			}
		})
		for k := range 66 {
			want := nothing(api.ErrNone)
			if k%2 == 0 && k+1 < n {
				want = found{2*(k+1) + 1, 6, api.OK}
			}
			wantFind(t, "a long one", h, 6, 2*k+1, want)
		}
	}
}

// TestP9_2_SixtyFour: the 64th class is the last one that one goes through, and what lies above it does not count.
func TestP9_2_SixtyFour(t *testing.T) {
	ends := []api.Obj{{}, {Slots: []int{0, 0, 1}}, {Slots: []int{2, 0, 1}}, {Kind: 1, Text: "a"}}
	for _, n := range []int{1, 2, 62, 63, 64, 65, 66, 126} {
		for k, end := range ends {
			h := row(n, end)
			for i := 1; i <= n; i++ {
				want := found{-2*i - 1, 2 * i, api.OK}
				if i > 64 {
					want = nothing(api.ErrNone)
				}
				wantFind(t, "a row", h, 2, 2*i+1, want)
			}
			want := nothing(api.ErrNone)
			if n < 64 && (k == 0 || k == 3) {
				want = nothing(api.ErrClass)
			}
			wantFind(t, "a row", h, 2, 2*n+3, want)
		}
	}
}

func TestP9_3_ByHand(t *testing.T) {
	above := map[int][]int{2: {2, 4, 6}, 4: {4, 6}, 6: {6}, 8: {8, 2, 4, 6}, 16: {16}, 18: {18}}
	for _, c := range all() {
		for _, d := range all() {
			wantUnder(t, "few", few(), c, d, slices.Contains(above[c], d))
		}
	}
}

func TestP9_3_ByWords(t *testing.T) {
	each(t, func(h api.Heap) {
		for _, c := range some(h) {
			for _, d := range some(h) {
				wantUnder(t, "one of many", h, c, d, underByWords(h, c, d, 64))
			}
		}
	})
}

// TestP9_3_First: object 0 is under itself, where it is a class; nobody else is under it.
func TestP9_3_First(t *testing.T) {
	h := turnedObj(0, func(o *api.Obj) { o.Slots = []int{4, 10, 3} })
	for _, c := range classes() {
		wantUnder(t, "object 0 is a class", h, c, 0, false)
	}
	for _, d := range []int{0, 4, 6} {
		wantUnder(t, "object 0 is a class", h, 0, d, true)
	}
	wantUnder(t, "object 0 is a class", h, 0, 2, false)
}

// TestP9_3_FirstOfEachKind: a class with the dictionary of object 0 is under itself, and others are under it and by way of it, of whatever kind object 0 is.
func TestP9_3_FirstOfEachKind(t *testing.T) {
	for _, o := range firsts() {
		h := turned(func(h *api.Heap) {
			h.Objs[0] = o
			h.Objs[2].Slots[1] = 0
		})
		above := map[int][]int{2: {2, 4, 6}, 4: {4, 6}, 6: {6}, 8: {8, 2, 4, 6}, 16: {16}, 18: {18}}
		for _, c := range all() {
			for _, d := range all() {
				wantUnder(t, "an empty dictionary", h, c, d, slices.Contains(above[c], d))
			}
		}
	}
}

// TestP9_3_SixtyFour: c is the first of 64.
func TestP9_3_SixtyFour(t *testing.T) {
	ends := []api.Obj{{}, {Slots: []int{0, 0, 1}}, {Slots: []int{2, 0, 1}}, {Kind: 1, Text: "a"}}
	for _, n := range []int{1, 2, 62, 63, 64, 65, 66, 126} {
		for k, end := range ends {
			h := row(n, end)
			isClass := k == 1 || k == 2
			for i := 1; i <= n; i++ {
				wantUnder(t, "a row", h, 2, 2*i, i <= 64)
				wantUnder(t, "a row", h, 2*i, 2*n, n-i < 64)
				wantUnder(t, "a row", h, 2*i, 2*n+2, isClass && n-i < 63)
			}
			wantUnder(t, "a row", h, 2*n+2, 2*n+2, isClass)
			wantUnder(t, "a row", h, 2*n+2, 2, k == 2)
		}
	}
}
