package canon

import (
	"anamnesis/api"
	"slices"
	"testing"
)

// wantJustIf holds Same against what Of tells of both, and against a pairing that is sought by the chapter's words; and tells it.
func wantJustIf(t *testing.T, a, b rooted) bool {
	t.Helper()
	g, to := canonical(t, a.h, a.roots)
	h, fro := canonical(t, b.h, b.roots)
	g.Cap, g.Last = h.Cap, h.Last
	same := isSame(a, b)
	if is := told(g, to) == told(h, fro); is != same {
		t.Fatalf("a pairing: %v; but Of tells the same: %v, of\n%s and\n%s", same, is, told(a.h, a.roots), told(b.h, b.roots))
	}
	if is := Same(a.h, a.roots, b.h, b.roots); is != same {
		t.Fatalf("a pairing: %v; but Same: %v, of\n%s and\n%s", same, is, told(a.h, a.roots), told(b.h, b.roots))
	}
	return same
}

// smallHeaps are all of two objects, with few things in them, from some roots.
func smallHeaps() []rooted {
	var l []rooted
	slots := [][]int{nil, {0}, {2}, {3}, {2, 0}}
	made := func(n int) api.Obj { return api.Obj{Class: 2 * (n % 2), Slots: slots[n/2]} }
	for n := range 100 {
		h := api.Heap{Cap: 2, Objs: []api.Obj{made(n % 10), made(n / 10)}}
		for _, roots := range [][]int{nil, {0}, {2}, {0, 2}, {2, 3}} {
			l = append(l, rooted{h, roots})
		}
	}
	return l
}

// TestP6_3_JustIfOfSmallHeaps holds each against each.
func TestP6_3_JustIfOfSmallHeaps(t *testing.T) {
	l := smallHeaps()
	for i, a := range l {
		for _, b := range l[i:] {
			wantJustIf(t, a, b)
		}
	}
}

// TestP6_3_JustIfOfMany: small heaps of one number of objects, of which many are alike, and each moved, or changed a bit.
func TestP6_3_JustIfOfMany(t *testing.T) {
	s := spread(8)
	same, other := 0, 0
	count := func(is bool) {
		if is {
			same++
		} else {
			other++
		}
	}
	for range 3000 {
		n := 1 + s.below(5)
		a := rooted{s.heap(n, 1), append(s.values(3, n), 2*s.below(n))}
		b := moved(a, s.order(n))
		if !wantJustIf(t, a, b) {
			t.Fatal("moved, and not the same")
		}
		b.roots[s.below(len(b.roots))] = 2 * s.below(n)
		count(wantJustIf(t, a, b))
		b = moved(a, s.order(n))
		o := &b.h.Objs[s.below(n)]
		o.Class = 2 * s.below(n)
		if len(o.Slots) > 0 {
			o.Slots[s.below(len(o.Slots))] = 2 * s.below(n)
		}
		count(wantJustIf(t, a, b))
	}
	if same < 1000 || other < 1000 {
		t.Fatalf("%d are the same, %d are not: not enough", same, other)
	}
}

// TestP6_3_OnceMore: an answer is the same as what it was made of, and once more changes nothing.
func TestP6_3_OnceMore(t *testing.T) {
	each(func(h api.Heap, roots []int) {
		g, to := canonical(t, h, roots)
		wantOf(t, g, to, g, to)
		wantSame(t, "its answer", rooted{h, roots}, rooted{g, to}, true)
	})
}

// TestP6_3_OneAnswerOfAllOrders: Of tells one and the same, however the objects were numbered.
func TestP6_3_OneAnswerOfAllOrders(t *testing.T) {
	s := spread(9)
	each(func(h api.Heap, roots []int) {
		a := rooted{h, roots}
		b := moved(a, s.order(len(h.Objs)))
		g, to := canonical(t, h, roots)
		wantOf(t, b.h, b.roots, g, to)
	})
}

// TestP6_3_ThroughAThird: what is the same as a third one is the same.
func TestP6_3_ThroughAThird(t *testing.T) {
	l := smallHeaps()
	s := spread(10)
	for range 200 {
		a := l[s.below(len(l))]
		var alike []rooted
		for _, b := range l {
			if Same(a.h, a.roots, b.h, b.roots) {
				alike = append(alike, b)
			}
		}
		for range 20 {
			wantSame(t, "through a third", alike[s.below(len(alike))], alike[s.below(len(alike))], true)
		}
	}
}

// TestR1_Long: there may be far more roots than objects.
func TestR1_Long(t *testing.T) {
	many := make([]int, 1000000)
	for i := range many {
		many[i] = 14 - 2*(i%2)
	}
	g, to := canonical(t, few(), many)
	if len(g.Objs) != 8 || len(to) != len(many) || to[0] != 0 || to[999999] != 2 {
		t.Errorf("%d objects, %d roots, from %d to %d", len(g.Objs), len(to), to[0], to[999999])
	}
	if !Same(few(), many, g, to) || Same(few(), many, g, to[:999999]) || Same(few(), many, few(), nil) {
		t.Error("Same of many roots")
	}
	many = append(many, 22)
	if g, to, e := Of(few(), many); e != api.ErrRef || len(g.Objs) != 0 || len(to) != 0 {
		t.Errorf("and one that is none: %d objects, %d roots, %d", len(g.Objs), len(to), e)
	}
	if Same(few(), many, few(), many) {
		t.Error("Same beside an error")
	}
}

// TestR3_NothingKept: what was asked before does not count.
func TestR3_NothingKept(t *testing.T) {
	for range 3 {
		for _, roots := range [][]int{{4}, {14, 9}, nil, {12}, {4, 4}, {16, 2}} {
			wantByWords(t, few(), roots)
			wantNothing(t, "between", few(), append(slices.Clone(roots), 22), api.ErrRef)
			wantNothing(t, "between", api.Heap{}, roots, api.ErrArg)
			wantByWords(t, turnedObj(3, func(o *api.Obj) { o.Class = 0 }), roots)
		}
	}
}

// spoil writes into all memory that l has, beyond its end, too.
func spoil(l []int) {
	l = l[:cap(l)]
	for i := range l {
		l[i] = 999
	}
}

func spoilHeap(h api.Heap) {
	for i := range h.Objs {
		spoil(h.Objs[i].Slots)
	}
	objs := h.Objs[:cap(h.Objs)]
	for i := range objs {
		objs[i] = api.Obj{Class: 999, Text: "spoilt", Slots: []int{999}}
	}
}

// TestR4_NoSharedMemory: neither who writes into an answer changes an argument, or another answer, nor the other way round.
func TestR4_NoSharedMemory(t *testing.T) {
	for _, roots := range [][]int{{12, 14}, {2, 2, 7}, {3}, refs(all(11))} {
		h, given := few(), slices.Clone(roots)
		g, to := canonical(t, h, given)
		want, wantTo := canonical(t, few(), roots)
		other, otherTo := canonical(t, h, given)

		spoilHeap(other)
		spoil(otherTo)
		if told(h, given) != told(few(), roots) {
			t.Fatalf("from %v: the arguments have changed to %s", roots, told(h, given))
		}
		spoilHeap(h)
		spoil(given)
		if told(g, to) != told(want, wantTo) {
			t.Fatalf("from %v: an answer has changed to %s", roots, told(g, to))
		}
	}
}

// TestR4_NothingBehindTheEnd: lists that have more room are not written into behind their ends.
func TestR4_NothingBehindTheEnd(t *testing.T) {
	room := []int{0, 2, 4, 6, 8, 10, 12}
	objs := []api.Obj{{}, {Slots: room[1:3]}, {Slots: room[3:4]}, {Hash: 7}, {Hash: 8}}
	h := api.Heap{Cap: 4, Objs: objs[:4]}
	g, to := canonical(t, h, room[1:2])
	if !Same(h, room[1:2], g, to) || !Same(g, to, h, room[1:2]) {
		t.Error("not the same")
	}
	if !slices.Equal(room, []int{0, 2, 4, 6, 8, 10, 12}) || objs[4].Hash != 8 {
		t.Error(room, objs)
	}
}

// TestR4_NoListsShared: no two lists of one answer share memory: who writes into one leaves the others.
func TestR4_NoListsShared(t *testing.T) {
	for _, roots := range [][]int{{12, 14}, refs(all(11)), {7, 20, 16, 2}} {
		want, wantTo := canonical(t, few(), roots)
		for i := range want.Objs {
			g, to := canonical(t, few(), roots)
			spoil(g.Objs[i].Slots)
			g.Objs[i].Slots = want.Objs[i].Slots
			if told(g, to) != told(want, wantTo) {
				t.Fatalf("from %v: with the slots of %d more has changed: %s", roots, i, told(g, to))
			}
		}
		g, to := canonical(t, few(), roots)
		spoil(to)
		if told(g) != told(want) {
			t.Fatalf("from %v: with the roots the heap has changed: %s", roots, told(g))
		}
	}
}

// TestR4_OneListTwice: where objects of the argument share their slots, and the roots are these, those of the answer do not.
func TestR4_OneListTwice(t *testing.T) {
	slots := []int{4, 2, 5}
	h := api.Heap{Cap: 3, Objs: []api.Obj{{}, {Class: 2, Slots: slots}, {Class: 4, Slots: slots}}}
	want := api.Heap{Cap: 3, Objs: []api.Obj{{Slots: []int{0, 2, 5}}, {Class: 2, Slots: []int{0, 2, 5}}}}
	wantOf(t, h, slots, want, []int{0, 2, 5})
	g, to := canonical(t, h, slots)
	spoil(g.Objs[0].Slots)
	spoil(to)
	if !slices.Equal(g.Objs[1].Slots, []int{0, 2, 5}) || !slices.Equal(slots, []int{4, 2, 5}) {
		t.Error(g, slots)
	}
}

// TestR5_EmptyIsNil: an empty list is as good as a nil one.
func TestR5_EmptyIsNil(t *testing.T) {
	emptied := turned(func(h *api.Heap) {
		for i, o := range h.Objs {
			if o.Slots == nil {
				h.Objs[i].Slots = []int{}
			}
		}
	})
	for i := range emptied.Objs {
		roots := []int{2 * i}
		g, to := canonical(t, few(), roots)
		wantOf(t, emptied, roots, g, to)
		wantSame(t, "emptied", rooted{emptied, roots}, rooted{few(), roots}, true)
	}
	wantByWords(t, few(), []int{})
	wantSame(t, "no roots", rooted{few(), []int{}}, rooted{emptied, nil}, true)
	wantSame(t, "no objects", rooted{api.Heap{Cap: 1, Objs: []api.Obj{}}, []int{3}}, rooted{api.Heap{Cap: 1}, []int{3}}, true)
	wantNothing(t, "an empty list", api.Heap{Objs: []api.Obj{}}, []int{}, api.ErrArg)
}
