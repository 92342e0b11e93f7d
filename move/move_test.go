package move

import (
	"anamnesis/api"
	"anamnesis/mark"
	"slices"
	"strings"
	"testing"
)

// byHand tells what becomes of few from some roots: the table, the objects that are left, the roots.
type byHand struct {
	roots, table []int
	objs         []api.Obj
	to           []int
}

func cases() []byHand {
	const o = -1
	none := []int{o, o, o, o, o, o, o, o, o, o, o}
	return []byHand{
		// No roots, and roots that are SmallIntegers.
		{nil, none, nil, nil},
		{[]int{3, -1, greatest, least, 1, 21}, none, nil, []int{3, -1, greatest, least, 1, 21}},
		// Objects that hold themselves; a root told twice; SmallIntegers beside refs.
		{[]int{0}, []int{0, o, o, o, o, o, o, o, o, o, o}, []api.Obj{{Hash: 5}}, []int{0}},
		{[]int{2, 5, 2}, []int{o, 0, o, o, o, o, o, o, o, o, o}, []api.Obj{{Slots: []int{0, 7, 0}, Hash: 6}}, []int{0, 5, 0}},
		{[]int{16}, []int{o, o, o, o, o, o, o, o, 0, o, o}, []api.Obj{{Slots: []int{21, 9, -3}}}, []int{0}},
		// Bytes, and an object that only its class reaches.
		{[]int{4}, []int{o, o, 0, 1, o, o, o, o, o, o, o}, []api.Obj{
			{Class: 2, Kind: 1, Text: "a\x00\x06\xff", Hash: 9}, {Class: 2},
		}, []int{0}},
		// Floats: one that is its own class, and one that is another's.
		{[]int{8}, []int{o, o, o, o, 0, o, o, o, o, o, o}, []api.Obj{{Kind: 2, Bits: 8}}, []int{0}},
		{[]int{18}, []int{o, o, o, o, o, o, o, o, o, 0, 1}, []api.Obj{
			{Class: 2, Kind: 1}, {Kind: 2, Bits: 9221120237041090561},
		}, []int{0}},
		// Objects that hold one another.
		{[]int{12, 7, 10}, []int{0, o, o, o, o, 1, 2, o, o, o, o}, []api.Obj{
			{Hash: 5}, {Slots: []int{4, -1}}, {Slots: []int{least, 2, greatest}},
		}, []int{4, 7, 2}},
		// What is held lies ahead of the object, and behind it.
		{[]int{14, -1}, []int{o, o, o, 0, 1, o, o, 2, o, 3, 4}, []api.Obj{
			{}, {Class: 2, Kind: 2, Bits: 8}, {Slots: []int{8, 1, 2}, Hash: 1073741823}, {Class: 8, Kind: 1}, {Class: 6, Kind: 2, Bits: 9221120237041090561},
		}, []int{4, -1}},
		// Roots from above to below: the objects keep their order, the roots theirs.
		{[]int{16, 3, 8, 2}, []int{o, 0, o, o, 1, o, o, o, 2, o, o}, []api.Obj{
			{Slots: []int{0, 7, 0}, Hash: 6}, {Class: 2, Kind: 2, Bits: 8}, {Class: 4, Slots: []int{21, 9, -3}},
		}, []int{4, 3, 2, 0}},
		// All of it.
		{[]int{12, 2, 4, 14, 16}, all(11), few().Objs, []int{12, 2, 4, 14, 16}},
	}
}

// TestP5_1_TableOfTheExample has three objects, of which the second one is not reached.
func TestP5_1_TableOfTheExample(t *testing.T) {
	h := api.Heap{Cap: 3, Objs: []api.Obj{{}, {}, {}}}
	if table, e := Table(h, []int{4}); e != api.OK || !slices.Equal(table, []int{0, -1, 1}) {
		t.Error(table, e)
	}
}

func TestP5_1_TableByHand(t *testing.T) {
	for _, c := range cases() {
		if table, e := Table(few(), c.roots); e != api.OK || !slices.Equal(table, c.table) {
			t.Errorf("Table from %v: %v, %d; want %v", c.roots, table, e, c.table)
		}
	}
}

func TestP5_2_CompactByHand(t *testing.T) {
	for _, c := range cases() {
		wantMoved(t, few(), c.roots, c.table, api.Heap{Cap: 13, Last: 77, Objs: c.objs}, c.to)
	}
}

func TestP5_2_CompactByWords(t *testing.T) {
	each(func(h api.Heap, roots []int) { wantByWords(t, h, roots) })
}

// TestP5_2_CapAndLast: they stay as they are, whatever goes.
func TestP5_2_CapAndLast(t *testing.T) {
	for _, room := range []int{11, 12, 255, 256} {
		for _, last := range []int{0, 1, 12345, 1073741823} {
			h := turned(func(h *api.Heap) { h.Cap, h.Last = room, last })
			for _, roots := range [][]int{nil, {1}, {0}, {6, 20}, refs(all(11))} {
				wantByWords(t, h, roots)
				if g, _, e := Compact(h, roots); e != api.OK || g.Cap != room || g.Last != last {
					t.Errorf("Compact from %v: Cap %d, Last %d, error %d; want %d, %d", roots, g.Cap, g.Last, e, room, last)
				}
			}
		}
	}
}

func TestP5_1_NoObjects(t *testing.T) {
	for _, h := range []api.Heap{{Cap: 1}, {Cap: 256, Last: 3, Objs: []api.Obj{}}} {
		wantMoved(t, h, nil, nil, h, nil)
		wantMoved(t, h, []int{1, -1, greatest}, nil, h, []int{1, -1, greatest})
		for _, v := range []int{0, 2, -2, signed} {
			wantNothing(t, "no objects", h, []int{1, v}, api.ErrRef)
		}
	}
}

// TestP5_1_NothingOfNoValue has one wrong root among right ones, at all places.
func TestP5_1_NothingOfNoValue(t *testing.T) {
	right := []int{0, 7, 12, 12, -1}
	for _, v := range noValues() {
		for at := range len(right) + 1 {
			wantNothing(t, "no value", few(), slices.Insert(slices.Clone(right), at, v), api.ErrRef)
		}
		wantNothing(t, "alone", few(), []int{v}, api.ErrRef)
		wantNothing(t, "behind many", few(), append(make([]int, 1000), v), api.ErrRef)
	}
}

func mayNotBe() map[string]api.Heap {
	obj := func(i int, do func(o *api.Obj)) api.Heap {
		return turned(func(h *api.Heap) { do(&h.Objs[i]) })
	}
	return map[string]api.Heap{
		"the zero one":         {},
		"cap below 0":          turned(func(h *api.Heap) { h.Cap = signed }),
		"cap too high":         turned(func(h *api.Heap) { h.Cap = 257 }),
		"too many objects":     turned(func(h *api.Heap) { h.Cap = 10 }),
		"257 objects":          {Cap: 257, Objs: make([]api.Obj, 257)},
		"very many objects":    {Cap: 256, Objs: make([]api.Obj, 5000)},
		"last below 0":         turned(func(h *api.Heap) { h.Last = -1 }),
		"last too high":        turned(func(h *api.Heap) { h.Last = 1 << 30 }),
		"class of none":        obj(8, func(o *api.Obj) { o.Class = 22 }),
		"class a SmallInteger": obj(8, func(o *api.Obj) { o.Class = 17 }),
		"class far away":       obj(0, func(o *api.Obj) { o.Class = highest - 1 }),
		"slot of none":         obj(8, func(o *api.Obj) { o.Slots[2] = 22 }),
		"slot below 0":         obj(8, func(o *api.Obj) { o.Slots[0] = -2 }),
		"slot no value":        obj(1, func(o *api.Obj) { o.Slots[1] = greatest + 2 }),
		"65 slots":             obj(0, func(o *api.Obj) { o.Slots = make([]int, 65) }),
		"65 bytes":             obj(9, func(o *api.Obj) { o.Text = strings.Repeat("x", 65) }),
		"no kind":              obj(10, func(o *api.Obj) { o.Kind = 3 }),
		"bytes with slots":     obj(9, func(o *api.Obj) { o.Slots = []int{0} }),
		"a float with a text":  obj(4, func(o *api.Obj) { o.Text = "a" }),
		"slots with bits":      obj(0, func(o *api.Obj) { o.Bits = 1 }),
		"another NaN":          obj(10, func(o *api.Obj) { o.Bits++ }),
		"hash below 0":         obj(0, func(o *api.Obj) { o.Hash = -1 }),
		"hash too high":        obj(0, func(o *api.Obj) { o.Hash = 1 << 30 }),
	}
}

// TestP5_1_NothingOfWhatMayNotBe: that the heap may not be comes first, whatever the roots are, and whether they reach the fault or not.
func TestP5_1_NothingOfWhatMayNotBe(t *testing.T) {
	rows := [][]int{nil, {}, {0}, {1}, {2, 6}, {4}, refs(all(11)), append([]int{0}, noValues()...)}
	for _, v := range noValues() {
		rows = append(rows, []int{v})
	}
	for name, h := range mayNotBe() {
		for _, roots := range rows {
			wantNothing(t, name, h, roots, api.ErrArg)
		}
	}
}

// TestP5_1_ErrorsAreLives: the error is mark.Live's, of all that each goes through, and of roots beyond it.
func TestP5_1_ErrorsAreLives(t *testing.T) {
	s := spread(2)
	for range 1000 {
		n := 1 + s.below(12)
		h := s.heap(n)
		h.Cap -= s.below(4)
		roots := s.values(5, n+1)
		if _, e := mark.Live(h, roots); e != api.OK {
			wantNothing(t, "as Live", h, roots, e)
		} else {
			wantByWords(t, h, roots)
		}
	}
}
