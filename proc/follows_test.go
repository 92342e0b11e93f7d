package proc_test

import (
	"anamnesis/api"
	"anamnesis/heap"
	"anamnesis/proc"
	"slices"
	"testing"
)

// anyLine is few's free processes and those of its lists, of any priorities, none of which stands in a list yet; in any order.
func anyLine(s *spread) (api.Heap, []int) {
	h := few()
	var l []int
	for i := 12; i <= 25; i++ {
		h.Objs[i] = process(0, 2*s.below(60), 2*s.below(8)+1, 2*s.below(60))
		l = slices.Insert(l, s.below(len(l)+1), 2*i)
	}
	return h, l
}

func inserted(t *testing.T, h api.Heap, first, p int) (api.Heap, int) {
	t.Helper()
	g, n, e := proc.Insert(h, first, p)
	if e != api.OK {
		t.Fatalf("Insert from %d on of %d: error %d", first, p, e)
	}
	return g, n
}

// TestP14_4_GreatestFirst: who is of the greatest priority, and came first, is taken first.
func TestP14_4_GreatestFirst(t *testing.T) {
	s := spread(1)
	for range 200 {
		start, l := anyLine(&s)
		h, first := start, 0
		for _, p := range l {
			h, first = inserted(t, h, first, p)
		}
		for len(l) > 0 {
			next := l[0]
			for _, p := range l {
				if h.Objs[p/2].Slots[2] > h.Objs[next/2].Slots[2] {
					next = p
				}
			}
			g, p, n, e := proc.Take(h, first)
			if e != api.OK || p != next {
				t.Fatalf("%d was taken, error %d; want %d", p, e, next)
			}
			h, first = g, n
			l = slices.DeleteFunc(l, func(p int) bool { return p == next })
		}
		if first != 0 || !isSame(h, start) {
			t.Fatalf("behind all that was taken, the list's first is %d, and the heap\n%s; it was\n%s", first, told(h), told(start))
		}
	}
}

// TestP14_4_Dropped: what was inserted, or appended, can be dropped, and all is as it was.
func TestP14_4_Dropped(t *testing.T) {
	for first := range lists() {
		for _, p := range free() {
			if slices.Contains(lists()[first], p) {
				continue
			}
			for _, join := range []func(api.Heap, int, int) (api.Heap, int, api.Errno){proc.Insert, proc.Append} {
				g, n, e := join(few(), first, p)
				if e != api.OK {
					t.Fatalf("from %d on, %d: error %d", first, p, e)
				}
				wantDrop(t, "again", g, n, p, answer{h: few(), first: first})
			}
		}
	}
}

// TestP14_4_AllOrders: four of two priorities, whichever of them come in which order.
func TestP14_4_AllOrders(t *testing.T) {
	line := []int{42, 44, 46, 48}
	for n := range 256 {
		order := []int{n % 4, n / 4 % 4, n / 16 % 4, n / 64}
		if slices.Compare(slices.Compact(slices.Sorted(slices.Values(order))), []int{0, 1, 2, 3}) != 0 {
			continue
		}
		for prios := range 16 {
			h, first := few(), 0
			var upper, lower []int
			for _, k := range order {
				prio := 2*(prios>>k&1) + 1
				h.Objs[line[k]/2].Slots[2] = prio
				h, first = inserted(t, h, first, line[k])
				if prio == 3 {
					upper = append(upper, line[k])
				} else {
					lower = append(lower, line[k])
				}
			}
			wantList(t, "all orders", h, first, append(upper, lower...), api.OK)
		}
	}
}

// TestP14_4_ManyCalls goes on from heap to heap, and holds three lists against three models: none touches another one.
func TestP14_4_ManyCalls(t *testing.T) {
	s := spread(2)
	h, free := anyLine(&s)
	prio := func(p int) int { return h.Objs[p/2].Slots[2] }
	lines, firsts := make([][]int, 3), make([]int, 3)
	for range 5000 {
		k := s.below(3)
		l := lines[k]
		var e api.Errno
		switch what := s.below(4); {
		case what < 2 && len(free) > 0:
			p := free[0]
			free = free[1:]
			if what == 0 {
				h, firsts[k], e = proc.Append(h, firsts[k], p)
				l = append(l, p)
				break
			}
			at := 0
			for at < len(l) && prio(l[at]) >= prio(p) {
				at++
			}
			h, firsts[k], e = proc.Insert(h, firsts[k], p)
			l = slices.Insert(l, at, p)
		case what == 2 && len(l) > 0:
			var p int
			h, p, firsts[k], e = proc.Take(h, firsts[k])
			if p != l[0] {
				t.Fatalf("%d was taken; want %d", p, l[0])
			}
			free, l = append(free, p), l[1:]
		case what == 3 && len(l) > 0:
			at := s.below(len(l))
			p := l[at]
			h, firsts[k], e = proc.Drop(h, firsts[k], p)
			free, l = append(free, p), slices.Delete(l, at, at+1)
		}
		lines[k] = l
		if e != api.OK || !heap.May(h) {
			t.Fatalf("error %d, %s", e, told(h))
		}
		for k, l := range lines {
			wantList(t, "many calls", h, firsts[k], l, api.OK)
		}
		for _, p := range free {
			wantList(t, "free", h, p, []int{p}, api.OK)
		}
	}
}

// TestP14_ManyHeaps holds all calls against the chapter's words, over heaps whose processes are anyhow.
func TestP14_ManyHeaps(t *testing.T) {
	s := spread(3)
	lengths := map[int]int{}
	for range 1500 {
		h := few()
		for i := 12; i < 26; i++ {
			// Mostly forward, so that many are lists.
			next := 2 * (i + 1 + s.below(4))
			if next > 50 || s.below(5) == 0 {
				next = s.of([]int{0, 0, 0, 24, 42, 52, 64})
			}
			h.Objs[i] = process(next, 2*s.below(60), 2*s.below(8)+1, 2*s.below(60))
			if s.below(30) == 0 {
				h.Objs[i].Slots[s.below(4)] = s.of([]int{0, 1, 2, 15, 16, 17, -1, 24, 120})
			}
		}
		first := 2 * (12 + s.below(14))
		ps := []int{s.anyInt(), s.of(all()), 24 + 2*s.below(14), 24 + 2*s.below(14), 24 + 2*s.below(14)}
		wantWords(t, "many heaps", h, first, ps...)
		wantWords(t, "many heaps", h, s.anyInt(), ps...)
		l, _ := listByWords(h, first)
		lengths[len(l)]++
	}
	for n := range 5 {
		if lengths[n] < 30 {
			t.Errorf("%d lists of %d processes", lengths[n], n)
		}
	}
}

// TestR1_AllArguments: no call panics, and each ends.
func TestR1_AllArguments(t *testing.T) {
	s := spread(4)
	for range 3000 {
		h := few()
		for range s.below(4) {
			o := &h.Objs[s.below(60)]
			switch s.below(5) {
			case 0:
				o.Class = s.anyInt()
			case 1:
				o.Kind = s.below(5) - 1
			case 2:
				o.Slots = append(o.Slots, s.anyInt())
			default:
				if len(o.Slots) > 0 {
					o.Slots[s.below(len(o.Slots))] = s.anyInt()
				}
			}
		}
		wantWords(t, "all arguments", h, s.anyInt(), s.anyInt(), s.anyInt())
	}
	for _, h := range mayNotBe() {
		for _, v := range all() {
			wantWords(t, "may not be", h, v, 42, v)
		}
	}
}

// TestR3_NothingIsKept: what was asked before does not count.
func TestR3_NothingIsKept(t *testing.T) {
	h := few()
	for k := range 50 {
		wantWords(t, "first", few(), 24, 42, 28)
		wantWords(t, "between", api.Heap{}, 24, 42, 28)
		wantWords(t, "no list", few(), 52, 42, 52)
		// One heap that is written into from call to call.
		h.Objs[21].Slots[2], h.Objs[14].Slots[0] = 2*(k%9)+1, []int{0, 30, 24, 64, 44}[k%5]
		wantWords(t, "written into", h, 24, 42, 28)
		h.Objs[44].Slots[0] = 3 - k%5
		wantKind(t, "written into", h, 88, false, k%5 == 0 || k%5 == 2)
	}
}

// spoil writes into all memory that the lists of h have, beyond their ends, too.
func spoil(h api.Heap) {
	for i := range h.Objs {
		spoilSlots(h.Objs[i].Slots)
	}
	all := h.Objs[:cap(h.Objs)]
	for i := range all {
		all[i] = api.Obj{Class: 99, Kind: 99, Text: "spoilt", Bits: 99, Hash: 99}
	}
}

func spoilSlots(l []int) {
	l = l[:cap(l)]
	for i := range l {
		l[i] = 999
	}
}

func wantHeap(t *testing.T, what string, got, want api.Heap) {
	t.Helper()
	if !isSame(got, want) {
		t.Fatalf("%s: the heap\n%s; want\n%s", what, told(got), told(want))
	}
}

// calls are those that answer a heap, such as answer and such as fail.
func calls() map[string]func(h api.Heap) api.Heap {
	l := map[string]func(h api.Heap) api.Heap{}
	for name, x := range map[string]struct{ first, p int }{"right": {24, 42}, "in it": {24, 28}, "no list": {52, 42}, "no process": {24, 64}, "nothing": {0, 42}, "alone": {42, 42}, "last": {40, 40}} {
		l["Insert, "+name] = func(h api.Heap) api.Heap { g, _, _ := proc.Insert(h, x.first, x.p); return g }
		l["Append, "+name] = func(h api.Heap) api.Heap { g, _, _ := proc.Append(h, x.first, x.p); return g }
		l["Drop, "+name] = func(h api.Heap) api.Heap { g, _, _ := proc.Drop(h, x.first, x.p); return g }
		l["Take, "+name] = func(h api.Heap) api.Heap { g, _, _, _ := proc.Take(h, x.first); return g }
	}
	return l
}

// TestR4_NoSharedMemory: neither who writes into an answer changes an argument, nor the other way round.
func TestR4_NoSharedMemory(t *testing.T) {
	for name, do := range calls() {
		h := few()
		spoil(do(h))
		wantHeap(t, name, h, few())

		h = few()
		g := do(h)
		want := copyOf(g)
		spoil(h)
		wantHeap(t, name, g, want)
	}
	h := few()
	l, _ := proc.List(h, 24)
	spoilSlots(l)
	wantHeap(t, "List", h, few())
	l, _ = proc.List(h, 24)
	spoil(h)
	if !slices.Equal(l, lists()[24]) {
		t.Errorf("the list has changed to %v", l)
	}
}

// TestR4_RoomBehind: what lies behind a list in its memory is not written into.
func TestR4_RoomBehind(t *testing.T) {
	for name, do := range calls() {
		h := few()
		objs := append(h.Objs, api.Obj{Hash: 5}, api.Obj{Hash: 6})
		h.Objs = objs[:60]
		slots := append(h.Objs[12].Slots, 5, 6)
		h.Objs[12].Slots = slots[:4]
		do(h)
		if objs[60].Hash != 5 || objs[61].Hash != 6 || slots[4] != 5 || slots[5] != 6 {
			t.Fatalf("%s: behind the lists there are %v and %v", name, objs[60:], slots[4:])
		}
	}
}

// TestR4_NoListsInCommon: objects of an argument may have a list in common; those of an answer have not.
func TestR4_NoListsInCommon(t *testing.T) {
	h := few()
	common := []int{0, 2, 11, 0}
	for _, i := range []int{21, 22, 23} {
		h.Objs[i].Slots = common
	}
	for name, do := range calls() {
		g := do(h)
		for i := range g.Objs {
			want := copyOf(g)
			want.Objs[i].Slots = nil
			spoilSlots(g.Objs[i].Slots)
			rest := copyOf(g)
			rest.Objs[i].Slots = nil
			wantHeap(t, name, rest, want)
		}
	}
	g, first := inserted(t, h, 0, 42)
	g, first = inserted(t, g, first, 44)
	wantList(t, "in common", g, first, []int{42, 44}, api.OK)
	wantList(t, "in common", g, 46, []int{46}, api.OK)
	h.Objs[23].Slots = []int{42, 2, 15, 0}
	wantWords(t, "in common", h, 46, 42, 44)
}

// TestR5_EmptyIsNil: an empty list is as good as a nil one.
func TestR5_EmptyIsNil(t *testing.T) {
	empty := turned(func(h *api.Heap) {
		for i := range h.Objs {
			if len(h.Objs[i].Slots) == 0 {
				h.Objs[i].Slots = []int{}
			}
		}
	})
	for _, first := range []int{0, 24, 34, 42, 52, 64, 86, 1} {
		for _, p := range []int{0, 24, 28, 42, 46, 64, 86} {
			wantInsert(t, "no slots", empty, first, p, insertByWords(few(), first, p))
			wantAppend(t, "no slots", empty, first, p, appendByWords(few(), first, p))
			wantDrop(t, "no slots", empty, first, p, dropByWords(few(), first, p))
		}
		wantTake(t, "no slots", empty, first, takeByWords(few(), first))
	}
	for _, objs := range [][]api.Obj{nil, {}} {
		wantWords(t, "no objects", api.Heap{Cap: 3, Objs: objs}, 0, 0, 2, 1)
		wantWords(t, "no objects, no room", api.Heap{Objs: objs}, 0, 0, 2, 1)
	}
}
