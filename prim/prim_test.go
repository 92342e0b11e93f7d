package prim_test

import (
	"anamnesis/api"
	"anamnesis/heap"
	"anamnesis/look"
	"anamnesis/prim"
	"slices"
	"testing"
)

// TestFew: what the other tests stand on.
func TestFew(t *testing.T) {
	if !heap.May(few()) || !heap.May(full()) {
		t.Fatal("few may not be")
	}
	for i := range few().Objs {
		want := slices.Contains(classes(), 2*i)
		if look.May(few(), 2*i) != want || isClassByWords(few(), 2*i) != want {
			t.Errorf("%d is a class: %v", 2*i, !want)
		}
	}
	for name, h := range mayNotBe() {
		if heap.May(h) {
			t.Errorf("%s: may be", name)
		}
	}
}

func TestP13_1_Args(t *testing.T) {
	want := []int{1: 1, 2: 1, 3: 1, 4: 1, 5: 1, 6: 1, 7: 1, 8: 1, 9: 2, 10: 0, 11: 0, 12: 1, 13: 0, 14: 1, 15: 0, 16: 1, 17: 1, 18: 1, 19: 1, 20: 1, 21: 1, 22: 1, 23: 0, 24: 0, 25: 1, 26: 2, 27: 1}
	for num := 1; num <= 27; num++ {
		if n, ok := prim.Args(num); n != want[num] || !ok {
			t.Errorf("Args of %d: %d, %v; want %d", num, n, ok, want[num])
		}
		if countByWords(num) != want[num] {
			t.Errorf("by words %d takes %d", num, countByWords(num))
		}
	}
}

func TestP13_1_NoPrimitive(t *testing.T) {
	for num := -1000; num <= 1000; num++ {
		if n, ok := prim.Args(num); (num < 1 || num > 27) && (n != 0 || ok) {
			t.Errorf("Args of %d: %d, %v", num, n, ok)
		}
	}
	for _, num := range noNumbers() {
		if n, ok := prim.Args(num); n != 0 || ok {
			t.Errorf("Args of %d: %d, %v", num, n, ok)
		}
	}
}

// TestP13_2_Example: 1 of 3 and 4 is the value of 7.
func TestP13_2_Example(t *testing.T) {
	wantDo(t, "the example", few(), 1, 7, []int{9}, answer{h: few(), v: 15})
}

// TestP13_2_NoPrimitive: whatever it is asked of, and whether there is room, or not.
func TestP13_2_NoPrimitive(t *testing.T) {
	for _, num := range noNumbers() {
		for _, self := range []int{7, 24, 40, 56} {
			for _, args := range [][]int{nil, {7}, {7, 7}, {7, 7, 7}} {
				wantDo(t, "no primitive", few(), num, self, args, failure(few()))
				wantDo(t, "no primitive, no room", full(), num, self, args, failure(full()))
			}
		}
	}
}

// TestP13_2_AsManyArgs: of each count of arguments that a primitive does not take it fails, where it would not with those that it takes.
func TestP13_2_AsManyArgs(t *testing.T) {
	self := []int{1: 7, 2: 7, 3: 7, 4: 7, 5: 7, 6: 7, 7: 7, 8: 56, 9: 56, 10: 56, 11: 24, 12: 24, 13: 7, 14: 7, 15: 7, 16: 56, 17: 7, 18: 7, 19: 7, 20: 7, 21: 7, 22: 7, 23: 7, 24: 7, 25: 34, 26: 34, 27: 24}
	for num := 1; num <= 27; num++ {
		args := slices.Repeat([]int{3}, 9)
		if num == 16 {
			args[0] = 58
		}
		for n := range args {
			want := doByWords(few(), num, self[num], args[:n])
			if (want.e == api.OK) != (n == countByWords(num)) {
				t.Fatalf("%d of %d arguments: by words error %d", num, n, want.e)
			}
			wantDo(t, "as many", few(), num, self[num], args[:n], want)
			if n != countByWords(num) {
				wantDo(t, "as many, no room", full(), num, self[num], args[:n], failure(full()))
			}
		}
		wantDo(t, "very many", few(), num, self[num], make([]int, 100000), failure(few()))
	}
}

// TestP13_2_MayNotBe: of a heap that may not be there is neither a heap, nor a value.
func TestP13_2_MayNotBe(t *testing.T) {
	for name, h := range mayNotBe() {
		for num := -1; num <= 29; num++ {
			for _, self := range []int{7, 24, 34, 40, 56, 64, -2} {
				for _, args := range [][]int{nil, {3}, {3, 3}, {64}, {3, 3, 3}} {
					wantDo(t, name, h, num, self, args, answer{e: api.ErrArg})
				}
			}
		}
	}
}

// TestP13_2_FewObjects: there are 12 at least.
func TestP13_2_FewObjects(t *testing.T) {
	for n := range 15 {
		h := api.Heap{Cap: 20, Objs: make([]api.Obj, n)}
		for num := 0; num <= 28; num++ {
			for _, args := range [][]int{nil, {3}, {3, 3}} {
				want := answer{e: api.ErrArg}
				if n >= 12 {
					want = doByWords(h, num, 7, args)
				}
				wantDo(t, "few objects", h, num, 7, args, want)
			}
		}
	}
	h := api.Heap{Cap: 12, Objs: make([]api.Obj, 12)}
	wantDo(t, "12", h, 1, 7, []int{9}, answer{h: h, v: 15})
	wantDo(t, "12", h, 14, 22, []int{22}, answer{h: h, v: yes})
	wantDo(t, "no 13th", h, 14, 24, []int{22}, answer{e: api.ErrArg})
	wantDo(t, "no 13th", h, 14, 22, []int{24}, answer{e: api.ErrArg})
	h.Objs = h.Objs[:11]
	wantDo(t, "11", h, 1, 7, []int{9}, answer{e: api.ErrArg})
	wantDo(t, "11", h, 14, 20, []int{20}, answer{e: api.ErrArg})
}

// TestP13_2_NoValue: self or an argument is none, be there such a primitive, and as many arguments, or not.
func TestP13_2_NoValue(t *testing.T) {
	for _, v := range noValues() {
		for num := 0; num <= 28; num++ {
			for _, args := range [][]int{nil, {3}, {3, 3}, {3, 3, 3}} {
				wantDo(t, "self", few(), num, v, args, answer{e: api.ErrArg})
				wantDo(t, "self, no room", full(), num, v, args, answer{e: api.ErrArg})
				for k := range args {
					l := slices.Clone(args)
					l[k] = v
					wantDo(t, "an argument", few(), num, 24, l, answer{e: api.ErrArg})
					wantDo(t, "an argument", few(), num, 7, l, answer{e: api.ErrArg})
				}
			}
		}
	}
	long := append(make([]int, 100000), 64)
	wantDo(t, "the last one of many", few(), 1, 7, long, answer{e: api.ErrArg})
	// What is above the objects that there are is a value of one heap, but not of another one.
	h := turned(func(h *api.Heap) { h.Objs = append(h.Objs, api.Obj{}) })
	wantDo(t, "one more", h, 14, 64, []int{62}, answer{h: h, v: no})
	wantDo(t, "one less", few(), 14, 64, []int{62}, answer{e: api.ErrArg})
}

// TestP13_2_EachWithEach takes all primitives of few's values, each with each, with room and without.
func TestP13_2_EachWithEach(t *testing.T) {
	all := values()
	thirds := []int{1, 3, 129, 509, 511, 513, -1, 0, 24, 56, greatest, least}
	count := map[api.Errno]int{}
	for _, h := range []api.Heap{few(), full()} {
		for num := 1; num <= 27; num++ {
			for _, self := range all {
				if countByWords(num) == 0 {
					wantWords(t, "each", h, num, self)
					continue
				}
				for _, a := range all {
					if countByWords(num) == 1 {
						want := doByWords(h, num, self, []int{a})
						wantDo(t, "each with each", h, num, self, []int{a}, want)
						count[want.e]++
						continue
					}
					for _, b := range thirds {
						wantWords(t, "each with each", h, num, self, a, b)
					}
				}
			}
		}
	}
	if count[api.OK] < 5000 || count[api.ErrPrim] < 5000 || count[api.ErrFull] < 1000 {
		t.Errorf("errors by their numbers: %v", count)
	}
}

// TestP13_2_FailsAheadOfFull: where a primitive fails, it does not count that there is no room.
func TestP13_2_FailsAheadOfFull(t *testing.T) {
	for k, x := range []struct {
		num, self int
		args      []int
		e         api.Errno
	}{
		{11, 24, nil, api.ErrFull}, {11, 26, nil, api.ErrFull}, {11, 30, nil, api.ErrPrim}, {11, 34, nil, api.ErrPrim}, {11, 7, nil, api.ErrPrim}, {11, 24, []int{1}, api.ErrPrim},
		{12, 24, []int{1}, api.ErrFull}, {12, 24, []int{129}, api.ErrFull}, {12, 24, []int{131}, api.ErrPrim}, {12, 24, []int{-1}, api.ErrPrim}, {12, 24, []int{24}, api.ErrPrim}, {12, 30, []int{1}, api.ErrPrim}, {12, 7, []int{1}, api.ErrPrim},
		{27, 24, []int{1}, api.ErrFull}, {27, 24, []int{129}, api.ErrFull}, {27, 24, []int{131}, api.ErrPrim}, {27, 24, []int{-1}, api.ErrPrim}, {27, 24, []int{24}, api.ErrPrim}, {27, 30, []int{1}, api.ErrPrim},
		{17, 40, []int{7}, api.ErrFull}, {18, 7, []int{7}, api.ErrFull}, {19, 40, []int{44}, api.ErrFull}, {20, 7, []int{1}, api.ErrFull},
		{17, 40, []int{56}, api.ErrPrim}, {18, 24, []int{7}, api.ErrPrim}, {19, 34, []int{7}, api.ErrPrim}, {20, 7, []int{0}, api.ErrPrim},
		{24, 40, nil, api.ErrFull}, {24, 7, nil, api.ErrFull}, {24, 34, nil, api.ErrPrim}, {24, 0, nil, api.ErrPrim},
		{21, 40, []int{7}, api.OK}, {22, 40, []int{7}, api.OK}, {23, 40, nil, api.OK}, {9, 56, []int{3, 3}, api.OK}, {16, 56, []int{58}, api.OK}, {26, 34, []int{3, 3}, api.OK},
	} {
		g, v, e := prim.Do(full(), x.num, x.self, x.args)
		if e != x.e || e != api.OK && (v != 0 || !isSame(g, full())) {
			t.Errorf("number %d: %d, error %d; want error %d", k, v, e, x.e)
		}
	}
}
