package canon

import (
	"anamnesis/api"
	"slices"
	"testing"
)

// TestP6_1_OfOfTheExample has three objects, root 4, and object 0 as the class of object 2.
func TestP6_1_OfOfTheExample(t *testing.T) {
	h := api.Heap{Cap: 3, Last: 4, Objs: []api.Obj{{Hash: 1}, {Hash: 2}, {Hash: 3}}}
	want := api.Heap{Cap: 3, Last: 4, Objs: []api.Obj{{Class: 2, Hash: 3}, {Class: 2, Hash: 1}}}
	wantOf(t, h, []int{4}, want, []int{0})
}

// byHand tells what becomes of few from some roots: the objects that are met, in their order, and the roots.
type byHand struct {
	roots []int
	objs  []api.Obj
	to    []int
}

func cases() []byHand {
	return []byHand{
		// No roots, and roots that are SmallIntegers.
		{nil, nil, nil},
		{[]int{3, -1, greatest, least, 1, 21}, nil, []int{3, -1, greatest, least, 1, 21}},
		// Objects that hold themselves; a root told twice; SmallIntegers beside refs.
		{[]int{0}, []api.Obj{{Hash: 5}}, []int{0}},
		{[]int{2, 5, 2}, []api.Obj{{Slots: []int{0, 7, 0}, Hash: 6}}, []int{0, 5, 0}},
		// Bytes, and an object that only its class reaches; behind it all that is not reached has gone.
		{[]int{4}, []api.Obj{{Class: 2, Kind: 1, Text: "a\x00\x06\xff", Hash: 9}, {Class: 2}}, []int{0}},
		// The same objects, met in another order.
		{[]int{6, 4}, []api.Obj{{}, {Kind: 1, Text: "a\x00\x06\xff", Hash: 9}}, []int{0, 2}},
		// Floats: one that is its own class, and one that holds what holds it.
		{[]int{8}, []api.Obj{{Kind: 2, Bits: 8}}, []int{0}},
		{[]int{20}, []api.Obj{{Class: 2, Kind: 2, Bits: theNaN}, {Kind: 1}}, []int{0}},
		{[]int{18}, []api.Obj{{Class: 2, Kind: 1}, {Kind: 2, Bits: theNaN}}, []int{0}},
		// Objects that hold one another: from each of them, and from both.
		{[]int{10}, []api.Obj{{Class: 2, Slots: []int{4, -1}}, {Class: 2, Hash: 5}, {Class: 2, Slots: []int{least, 0, greatest}}}, []int{0}},
		{[]int{12}, []api.Obj{{Class: 2, Slots: []int{least, 4, greatest}}, {Class: 2, Hash: 5}, {Class: 2, Slots: []int{0, -1}}}, []int{0}},
		{[]int{12, 7, 10}, []api.Obj{{Class: 4, Slots: []int{least, 2, greatest}}, {Class: 4, Slots: []int{0, -1}}, {Class: 4, Hash: 5}}, []int{0, 7, 2}},
		// The class ahead of the slots; what a slot holds ahead of what its object's class holds.
		{[]int{14, -1}, []api.Obj{
			{Class: 2, Slots: []int{4, 1, 6}, Hash: mostOfHash}, {Class: 2}, {Class: 8, Kind: 2, Bits: theNaN}, {Class: 6, Kind: 2, Bits: 8}, {Class: 4, Kind: 1},
		}, []int{0, -1}},
		// What the class holds (the NaN) comes behind all that the object itself holds, and ahead of what is held by that.
		{[]int{16}, []api.Obj{
			{Class: 2, Slots: []int{4, 2, 6, 0, 21}}, {Class: 8, Kind: 1}, {Class: 10, Kind: 1, Text: "a\x00\x06\xff", Hash: 9},
			{Class: 6, Slots: []int{6, 7, 6}, Hash: 6}, {Class: 2, Kind: 2, Bits: theNaN}, {Class: 10},
		}, []int{0}},
		// Roots ahead of all that they hold, from above to below.
		{[]int{16, 3, 8, 2}, []api.Obj{
			{Class: 6, Slots: []int{8, 6, 4, 0, 21}}, {Class: 2, Kind: 2, Bits: 8}, {Class: 4, Slots: []int{4, 7, 4}, Hash: 6},
			{Class: 10, Kind: 1}, {Class: 12, Kind: 1, Text: "a\x00\x06\xff", Hash: 9}, {Class: 6, Kind: 2, Bits: theNaN}, {Class: 12},
		}, []int{0, 3, 2, 4}},
		// All of it, in its own order.
		{refs(all(11)), few().Objs, refs(all(11))},
	}
}

func TestP6_1_OfByHand(t *testing.T) {
	for _, c := range cases() {
		wantOf(t, few(), c.roots, api.Heap{Cap: 13, Last: 77, Objs: c.objs}, c.to)
	}
}

func TestP6_1_OfByWords(t *testing.T) {
	each(func(h api.Heap, roots []int) { wantByWords(t, h, roots) })
}

// TestP6_1_NumbersRise: whoever goes through an answer as the chapter tells it meets number 0 first, then 1, and so on, and all of them.
func TestP6_1_NumbersRise(t *testing.T) {
	each(func(h api.Heap, roots []int) {
		g, to := canonical(t, h, roots)
		next := 0
		look := func(row ...int) {
			for _, v := range row {
				if v%2 == 0 && (v < 0 || v > 2*next) {
					t.Fatalf("from %v: %d is met ahead of %d: %s", roots, v, 2*next, told(g, to))
				}
				if v == 2*next {
					next++
				}
			}
		}
		look(to...)
		for i, o := range g.Objs {
			if next <= i {
				t.Fatalf("from %v: object %d is not met: %s", roots, i, told(g, to))
			}
			look(o.Class)
			look(o.Slots...)
		}
		if next != len(g.Objs) {
			t.Fatalf("from %v: %d are met of %d: %s", roots, next, len(g.Objs), told(g, to))
		}
	})
}

// TestP6_1_CapAndLast: they stay as they are, whatever is reached.
func TestP6_1_CapAndLast(t *testing.T) {
	for _, room := range []int{11, 12, 255, 256} {
		for _, last := range []int{0, 1, 12345, mostOfHash} {
			h := turned(func(h *api.Heap) { h.Cap, h.Last = room, last })
			for _, roots := range [][]int{nil, {1}, {0}, {6, 20}, refs(all(11))} {
				wantByWords(t, h, roots)
				if g, _ := canonical(t, h, roots); g.Cap != room || g.Last != last {
					t.Errorf("Of from %v: Cap %d, Last %d; want %d, %d", roots, g.Cap, g.Last, room, last)
				}
			}
		}
	}
}

// TestP6_1_Full: the last object that a heap may have, and roots from there.
func TestP6_1_Full(t *testing.T) {
	round := all(256)
	slices.Reverse(round)
	for _, h := range full() {
		g, to := canonical(t, h, refs(round))
		if len(g.Objs) != 256 || !slices.Equal(to, refs(all(256))) {
			t.Fatalf("%d objects, roots %v", len(g.Objs), to)
		}
		for i, o := range g.Objs {
			from := h.Objs[255-i]
			if o.Hash != from.Hash || o.Text != from.Text || o.Bits != from.Bits || o.Class != 510-from.Class {
				t.Fatalf("object %d: %v; it was %v", i, o, from)
			}
		}
		wantNothing(t, "one too many", h, append(refs(round), 512), api.ErrRef)
	}
}

func TestP6_1_NoObjects(t *testing.T) {
	for _, h := range []api.Heap{{Cap: 1}, {Cap: 256, Last: 3, Objs: []api.Obj{}}} {
		wantOf(t, h, nil, h, nil)
		wantOf(t, h, []int{1, -1, greatest}, h, []int{1, -1, greatest})
		for _, v := range []int{0, 2, -2, signed} {
			wantNothing(t, "no objects", h, []int{1, v}, api.ErrRef)
		}
	}
}

// TestP6_1_NothingOfNoValue has one wrong root among right ones, at all places.
func TestP6_1_NothingOfNoValue(t *testing.T) {
	right := []int{0, 7, 12, 12, -1}
	for _, v := range noValues() {
		for at := range len(right) + 1 {
			wantNothing(t, "no value", few(), slices.Insert(slices.Clone(right), at, v), api.ErrRef)
		}
		wantNothing(t, "alone", few(), []int{v}, api.ErrRef)
		wantNothing(t, "twice", few(), []int{v, v}, api.ErrRef)
		wantNothing(t, "behind many", few(), append(make([]int, 1000), v), api.ErrRef)
	}
	// The last object, and the ends of the SmallIntegers, are values.
	for _, v := range []int{20, 0, greatest, least, 23, 2097153} {
		wantByWords(t, few(), []int{v, 7})
	}
}

// TestP6_1_NothingOfWhatMayNotBe: that the heap may not be comes first, whatever the roots are, and whether they reach the fault or not.
func TestP6_1_NothingOfWhatMayNotBe(t *testing.T) {
	rows := [][]int{nil, {}, {0}, {1}, {2, 6}, {4}, refs(all(11)), append([]int{0}, noValues()...)}
	for _, v := range noValues() {
		rows = append(rows, []int{v})
	}
	for name, h := range mayNotBe() {
		for _, roots := range rows {
			wantNothing(t, name, h, roots, api.ErrArg)
		}
	}
}
