package mark

import (
	"anamnesis/api"
	"slices"
	"testing"
)

// TestP4_1_LiveOfTheExample has two objects, each its own class.
func TestP4_1_LiveOfTheExample(t *testing.T) {
	h := api.Heap{Cap: 2, Objs: []api.Obj{{}, {Class: 2}}}
	wantLive(t, h, []int{2}, []int{1})
	wantLive(t, h, []int{0}, []int{0})
}

func TestP4_1_LiveByHand(t *testing.T) {
	for _, c := range []struct{ roots, want []int }{
		// No roots, and roots that are SmallIntegers.
		{nil, nil}, {[]int{}, nil}, {[]int{1}, nil}, {[]int{3, 5, -1, 7, greatest, least}, nil}, {[]int{23, 2097153}, nil},
		// An object of nothing, one of slots, bytes, a float.
		{[]int{0}, []int{0}}, {[]int{2}, []int{0, 1, 2}}, {[]int{4}, []int{0, 2}}, {[]int{6}, []int{3}}, {[]int{20}, []int{0, 10}},
		// Through a class alone, and that of bytes.
		{[]int{8}, []int{4, 5}}, {[]int{18}, []int{4, 5, 9}},
		// Objects that hold themselves, and one another.
		{[]int{10}, []int{5}}, {[]int{12}, []int{0, 6, 7}}, {[]int{14}, []int{0, 6, 7}}, {[]int{12, 14}, []int{0, 6, 7}},
		// Slots of SmallIntegers alone.
		{[]int{16}, []int{8}},
		// A root told twice, and roots from above to below.
		{[]int{4, 4}, []int{0, 2}}, {[]int{16, 16, 6, 16}, []int{3, 8}}, {[]int{18, 1, 6, 18}, []int{3, 4, 5, 9}}, {[]int{20, 16, 10, 0}, []int{0, 5, 8, 10}},
		// SmallIntegers beside refs.
		{[]int{9, 6, 11}, []int{3}}, {[]int{least, 10, greatest}, []int{5}},
		{[]int{2, 6, 8, 12, 16, 18, 20}, []int{0, 1, 2, 3, 4, 5, 6, 7, 8, 9, 10}},
	} {
		wantLive(t, few(), c.roots, c.want)
	}
}

func TestP4_1_LiveOfNoObjects(t *testing.T) {
	none := api.Heap{Cap: 1}
	wantLive(t, none, nil, nil)
	wantLive(t, none, []int{1, -1, greatest, least}, nil)
	for _, v := range []int{0, 2, -2} {
		wantNothing(t, "no objects", none, []int{v}, api.ErrRef)
	}
}

// rooted is a heap with one root.
type rooted struct {
	h    api.Heap
	root int
}

// full are heaps of as many objects as there may be; all of each is reached from the root.
func full() map[string]rooted {
	made := func(root int, do func(o *api.Obj, i int)) rooted {
		h := api.Heap{Cap: 256, Objs: make([]api.Obj, 256)}
		for i := range h.Objs {
			do(&h.Objs[i], i)
		}
		return rooted{h, root}
	}
	return map[string]rooted{
		"classes, rising":  made(0, func(o *api.Obj, i int) { o.Class = 2 * min(i+1, 255) }),
		"classes, falling": made(510, func(o *api.Obj, i int) { o.Class = 2 * max(i-1, 0) }),
		"classes, round":   made(254, func(o *api.Obj, i int) { o.Class = 2 * ((i + 1) % 256) }),
		"slots, rising":    made(0, func(o *api.Obj, i int) { o.Class, o.Slots = 2*i, []int{2 * min(i+1, 255)} }),
		"slots, falling":   made(510, func(o *api.Obj, i int) { o.Class, o.Slots = 2*i, []int{1, 2 * max(i-1, 0)} }),
		"the last slots": made(0, func(o *api.Obj, i int) {
			o.Class, o.Slots = 2*i, make([]int, 64)
			o.Slots[63] = 2 * min(i+1, 255)
		}),
		"classes of bytes": made(0, func(o *api.Obj, i int) { o.Class, o.Kind = 2*min(i+1, 255), 1 }),
		"classes of floats": made(510, func(o *api.Obj, i int) {
			o.Class, o.Kind, o.Bits = 2*max(i-1, 0), 2, 2*i
		}),
		"all of most slots": made(36, func(o *api.Obj, i int) {
			for k := range 64 {
				o.Slots = append(o.Slots, 2*((4*i+k)%256))
			}
		}),
	}
}

func TestP4_1_LiveOfFullHeaps(t *testing.T) {
	var all []int
	for i := range 256 {
		all = append(all, i)
	}
	for _, c := range full() {
		wantLive(t, c.h, []int{c.root}, all)
		wantLive(t, c.h, []int{c.root, -1, c.root}, all)
		// And nothing at all.
		wantLive(t, c.h, nil, nil)
		wantLive(t, c.h, []int{1, c.root + 1, 513}, nil)
		wantNothing(t, "full", c.h, []int{c.root, 512}, api.ErrRef)
	}
	alone := api.Heap{Cap: 256, Objs: make([]api.Obj, 256)}
	wantLive(t, alone, []int{0}, []int{0})
	wantLive(t, alone, []int{510}, []int{0, 255})
}

// TestP4_1_LiveOfAllSmallHeaps goes through all heaps of three objects that have a ref, a SmallInteger (one stands for all), or no slot, from all sets of them.
func TestP4_1_LiveOfAllSmallHeaps(t *testing.T) {
	slots := [][]int{nil, {0}, {2}, {4}, {5}}
	rows := [][]int{nil, {0}, {2}, {4}, {2, 0}, {4, 0}, {2, 4}, {4, 2, 0}, {3}, {1, 4}}
	made := func(n int) api.Obj { return api.Obj{Class: 2 * (n % 3), Slots: slots[n/3]} }
	for n := range 15 * 15 * 15 {
		h := api.Heap{Cap: 3, Objs: []api.Obj{made(n % 15), made(n / 15 % 15), made(n / 225)}}
		for _, roots := range rows {
			wantLive(t, h, roots, reached(h, roots))
		}
	}
}

func TestP4_1_LiveOfMany(t *testing.T) {
	s := spread(1)
	some := 0
	for range 600 {
		n := 1 + s.below(60)
		h := s.heap(n)
		roots := s.roots(n)
		want := reached(h, roots)
		wantLive(t, h, roots, want)
		if 0 < len(want) && len(want) < n {
			some++
		}
	}
	if some < 200 {
		t.Fatalf("only %d heaps of which some objects are reached, and some are not", some)
	}
}

// TestP4_1_LiveOfNoValue has one wrong root among right ones, at all places.
func TestP4_1_LiveOfNoValue(t *testing.T) {
	right := []int{0, 7, 12, 12, -1}
	for _, v := range noValues() {
		for at := range len(right) + 1 {
			wantNothing(t, "no value", few(), slices.Insert(slices.Clone(right), at, v), api.ErrRef)
		}
		wantNothing(t, "alone", few(), []int{v}, api.ErrRef)
		wantNothing(t, "twice", few(), []int{v, v}, api.ErrRef)
		wantNothing(t, "behind many", few(), append(make([]int, 1000), v), api.ErrRef)
	}
	// The last object, and no further.
	wantLive(t, few(), []int{20}, []int{0, 10})
	wantNothing(t, "one further", few(), []int{22}, api.ErrRef)
}

// TestP4_1_LiveOfWhatMayNotBe: that the heap may not be comes first, whatever the roots are, and whether they reach the fault or not.
func TestP4_1_LiveOfWhatMayNotBe(t *testing.T) {
	rows := [][]int{nil, {}, {0}, {1}, {2, 6}, {6}, {10}, {16}, {0, 2, 4, 6, 8, 10, 12, 14, 16, 18, 20}, append([]int{0}, noValues()...)}
	for _, v := range noValues() {
		rows = append(rows, []int{v})
	}
	for name, h := range mayNotBe() {
		for _, roots := range rows {
			wantNothing(t, name, h, roots, api.ErrArg)
		}
	}
}

func TestP4_2_HasByHand(t *testing.T) {
	for _, c := range []struct {
		roots []int
		v     int
		want  bool
	}{
		{[]int{2}, 2, true}, {[]int{2}, 4, true}, {[]int{2}, 0, true}, {[]int{2}, 6, false}, {[]int{2}, 20, false},
		{[]int{8}, 10, true}, {[]int{8}, 8, true}, {[]int{10}, 8, false}, {[]int{18}, 10, true},
		{[]int{12}, 14, true}, {[]int{14}, 12, true}, {[]int{6}, 6, true}, {[]int{6}, 0, false}, {[]int{20}, 20, true},
		{nil, 0, false}, {[]int{1}, 0, false}, {[]int{1}, 1, false}, {[]int{16}, 9, false}, {[]int{16}, 8, false},
		{[]int{20, 6, 16}, 6, true}, {[]int{4, 4}, 4, true}, {[]int{4, 4}, 2, false},
		{[]int{0, 22}, 0, false}, {[]int{0, 22}, 22, false}, {[]int{-2, 2}, 2, false}, {[]int{-2, 2}, -2, false},
	} {
		if got := Has(few(), c.roots, c.v); got != c.want {
			t.Errorf("Has from %v: %d: %v", c.roots, c.v, got)
		}
	}
}

// TestP4_2_HasOfNoRef asks where all objects are reached: what is no ref of one of them isn't, whether it is a root or not.
func TestP4_2_HasOfNoRef(t *testing.T) {
	all := []int{0, 2, 4, 6, 8, 10, 12, 14, 16, 18, 20}
	for _, v := range noRefs() {
		if Has(few(), all, v) {
			t.Errorf("Has of %d", v)
		}
		if Has(few(), append([]int{v}, all...), v) {
			t.Errorf("Has of %d, that is a root", v)
		}
	}
	for i := range 11 {
		if !Has(few(), all, 2*i) || Has(few(), all, 2*i+1) || Has(few(), all, -2*i-1) {
			t.Errorf("Has of object %d", i)
		}
	}
	for _, c := range full() {
		if !Has(c.h, []int{c.root}, 0) || !Has(c.h, []int{c.root}, 510) || Has(c.h, []int{c.root}, 512) || Has(c.h, nil, c.root) {
			t.Error("Has of a full heap")
		}
	}
}

// TestP4_2_HasIsInLive: with and without an error, Has and Live tell the same.
func TestP4_2_HasIsInLive(t *testing.T) {
	s := spread(2)
	for range 400 {
		n := 1 + s.below(30)
		h := s.heap(n)
		// Some roots are of objects that there are not.
		roots := s.roots(n + s.below(3))
		l, _ := Live(h, roots)
		for v := -2*n - 3; v < 2*n+6; v++ {
			if got := Has(h, roots, v); got != (v%2 == 0 && slices.Contains(l, v/2)) {
				t.Fatalf("Has from %v: %d: %v; Live: %v", roots, v, got, l)
			}
		}
	}
}
