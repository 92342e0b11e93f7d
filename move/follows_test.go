package move

import (
	"anamnesis/api"
	"slices"
	"testing"
)

func compact(t *testing.T, h api.Heap, roots []int) (api.Heap, []int) {
	t.Helper()
	g, to, e := Compact(h, roots)
	if e != api.OK {
		t.Fatalf("Compact from %v: error %d", roots, e)
	}
	return g, to
}

// TestP5_3_AllIsReached: of what is compacted no object is left that could go. That it may be is told by mark.Live, too.
func TestP5_3_AllIsReached(t *testing.T) {
	each(func(h api.Heap, roots []int) {
		g, to := compact(t, h, roots)
		if l := live(t, g, to); !slices.Equal(l, all(len(g.Objs))) {
			t.Fatalf("from %v: of %d objects %v are reached", roots, len(g.Objs), l)
		}
	})
}

func TestP5_3_OnceMore(t *testing.T) {
	each(func(h api.Heap, roots []int) {
		g, to := compact(t, h, roots)
		wantMoved(t, g, to, all(len(g.Objs)), g, to)
	})
}

// pair is a value of a heap, and what is to be the same one in another.
type pair struct{ v, w int }

// walker goes all ways in two heaps at once.
type walker struct {
	t    *testing.T
	h, g api.Heap
	to   map[int]int // of an object's ref in h the one in g
	fro  map[int]int
	met  []pair
}

// meet takes two values that one comes to by the same way.
func (w *walker) meet(p pair) {
	if p.v%2 != 0 || p.w%2 != 0 {
		if p.v != p.w {
			w.t.Fatalf("%d in the one, %d in the other", p.v, p.w)
		}
		return
	}
	to, ok := w.to[p.v]
	fro, isOther := w.fro[p.w]
	if !ok && !isOther {
		w.to[p.v], w.fro[p.w] = p.w, p.v
		w.met = append(w.met, p)
	} else if to != p.w || fro != p.v {
		w.t.Fatalf("by one way %d is %d, by another one %d; %d was %d", p.v, p.w, to, p.w, fro)
	}
}

func (w *walker) meetAll(l, m []int) {
	if len(l) != len(m) {
		w.t.Fatalf("%v in the one, %v in the other", l, m)
	}
	for i, v := range l {
		w.meet(pair{v, m[i]})
	}
}

// TestP5_3_WaysLeadToTheSame goes from each root by classes and slots, in both heaps at once, as far as ways lead.
func TestP5_3_WaysLeadToTheSame(t *testing.T) {
	each(func(h api.Heap, roots []int) {
		g, to := compact(t, h, roots)
		w := walker{t: t, h: h, g: g, to: map[int]int{}, fro: map[int]int{}}
		w.meetAll(roots, to)
		for k := 0; k < len(w.met); k++ {
			a, b := h.Objs[w.met[k].v/2], g.Objs[w.met[k].w/2]
			if a.Kind != b.Kind || a.Text != b.Text || a.Bits != b.Bits || a.Hash != b.Hash {
				t.Fatalf("from %v: %v in the one, %v in the other", roots, a, b)
			}
			w.meet(pair{a.Class, b.Class})
			w.meetAll(a.Slots, b.Slots)
		}
		if len(w.met) != len(g.Objs) {
			t.Fatalf("from %v: ways lead to %d objects of %d", roots, len(w.met), len(g.Objs))
		}
	})
}

// TestR1_Long: there may be far more roots than objects, and a far longer table than any heap's.
func TestR1_Long(t *testing.T) {
	many := make([]int, 1000000)
	for i := range many {
		many[i] = 12 + 2*(i%2)
	}
	g, to := compact(t, few(), many)
	if len(g.Objs) != 8 || len(to) != len(many) || to[0] != 8 || to[999999] != 10 {
		t.Errorf("%d objects, %d roots, from %d to %d", len(g.Objs), len(to), to[0], to[999999])
	}
	wantNothing(t, "and one that is none", few(), append(many, 22), api.ErrRef)
	wantValue(t, many, 4, 24, true)
	wantValue(t, many, lastRef, 0, false)
}

// TestR3_NothingKept: what was asked before does not count.
func TestR3_NothingKept(t *testing.T) {
	for range 3 {
		for _, roots := range [][]int{{4}, {14, 9}, nil, {12}, {4, 4}} {
			wantByWords(t, few(), roots)
			wantNothing(t, "between", few(), append(roots, 22), api.ErrRef)
			wantNothing(t, "between", api.Heap{}, roots, api.ErrArg)
			wantByWords(t, turned(func(h *api.Heap) { h.Objs[3].Class = 0 }), roots)
		}
	}
}

// spoil writes into all memory that l has, beyond its end, too.
func spoil(l []int) {
	l = l[:cap(l)]
	for i := range l {
		l[i] = 999
	}
}

func spoilHeap(h api.Heap) {
	for i := range h.Objs {
		spoil(h.Objs[i].Slots)
	}
	objs := h.Objs[:cap(h.Objs)]
	for i := range objs {
		objs[i] = api.Obj{Class: 999, Text: "spoilt", Slots: []int{999}}
	}
}

// TestR4_NoSharedMemory: neither who writes into an answer changes an argument, or another answer, nor the other way round.
func TestR4_NoSharedMemory(t *testing.T) {
	for _, roots := range [][]int{{12, 14}, {2, 2, 7}, {3}, refs(all(11))} {
		h, given := few(), slices.Clone(roots)
		g, to := compact(t, h, given)
		table, _ := Table(h, given)
		wantG, wantTo := compact(t, few(), roots)
		wantTable := slices.Clone(table)
		other, otherTo := compact(t, h, given)
		otherTable, _ := Table(h, given)

		spoilHeap(other)
		spoil(otherTo)
		spoil(otherTable)
		if told(h, given) != told(few(), roots) {
			t.Fatalf("from %v: the arguments have changed to %s", roots, told(h, given))
		}
		spoilHeap(h)
		spoil(given)
		if told(g, to, table) != told(wantG, wantTo, wantTable) {
			t.Fatalf("from %v: an answer has changed to %s", roots, told(g, to, table))
		}
	}
}

// TestR4_NoListsShared: no two lists of one answer share memory: who writes into one leaves the others.
func TestR4_NoListsShared(t *testing.T) {
	for _, roots := range [][]int{{12, 14}, refs(all(11)), {7, 20, 16, 2}} {
		want, wantTo := compact(t, few(), roots)
		for i := range want.Objs {
			g, to := compact(t, few(), roots)
			spoil(g.Objs[i].Slots)
			g.Objs[i].Slots = want.Objs[i].Slots
			if told(g, to) != told(want, wantTo) {
				t.Fatalf("from %v: with the slots of %d more has changed: %s", roots, i, told(g, to))
			}
		}
		g, to := compact(t, few(), roots)
		spoil(to)
		if told(g) != told(want) {
			t.Fatalf("from %v: with the roots the heap has changed: %s", roots, told(g))
		}
	}
}

// TestR4_OneListTwice: where objects of the argument share their slots, those of the answer do not.
func TestR4_OneListTwice(t *testing.T) {
	slots := []int{2, 4, 5}
	h := api.Heap{Cap: 3, Objs: []api.Obj{{}, {Class: 2, Slots: slots}, {Class: 4, Slots: slots}}}
	want := api.Heap{Cap: 3, Objs: []api.Obj{{Slots: []int{0, 2, 5}}, {Class: 2, Slots: []int{0, 2, 5}}}}
	wantMoved(t, h, slots, []int{-1, 0, 1}, want, []int{0, 2, 5})
	g, to := compact(t, h, slots)
	spoil(g.Objs[0].Slots)
	spoil(to)
	if !slices.Equal(g.Objs[1].Slots, []int{0, 2, 5}) || !slices.Equal(slots, []int{2, 4, 5}) {
		t.Error(g, slots)
	}
}

// TestR5_EmptyIsNil: an empty list is as good as a nil one.
func TestR5_EmptyIsNil(t *testing.T) {
	emptied := turned(func(h *api.Heap) {
		for i, o := range h.Objs {
			if o.Slots == nil {
				h.Objs[i].Slots = []int{}
			}
		}
	})
	for i := range emptied.Objs {
		wantByWords(t, emptied, []int{2 * i})
		g, to := compact(t, emptied, []int{2 * i})
		want, wantTo := compact(t, few(), []int{2 * i})
		if told(g, to) != told(want, wantTo) {
			t.Errorf("from object %d: %s; want %s", i, told(g, to), told(want, wantTo))
		}
	}
	wantByWords(t, few(), []int{})
	wantNothing(t, "an empty list", api.Heap{Objs: []api.Obj{}}, []int{}, api.ErrArg)
	wantValue(t, []int{}, 7, 7, true)
	wantValue(t, []int{}, 0, 0, false)
}
