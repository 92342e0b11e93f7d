package frame

import (
	"anamnesis/api"
	"anamnesis/heap"
	"slices"
	"testing"
)

// TestP12_5_Popped: what was pushed is popped, in turn; the heap is then as it was.
func TestP12_5_Popped(t *testing.T) {
	for _, c := range contexts() {
		x, _ := seenByWords(few(), c)
		for n := range 17 - x.sp {
			h := few()
			for k := range n {
				h = pushed(t, h, c, manyLits()[k])
			}
			for k := n - 1; k >= 0; k-- {
				var v int
				h, v = popped(t, h, c)
				if v != manyLits()[k] {
					t.Fatalf("%d was popped; want %d", v, manyLits()[k])
				}
			}
			if !isSame(h, few()) {
				t.Fatalf("the heap is\n%s; it was\n%s", told(h), told(few()))
			}
		}
	}
}

func pushed(t *testing.T, h api.Heap, c, v int) api.Heap {
	t.Helper()
	g, e := Push(h, c, v)
	if e != api.OK {
		t.Fatalf("Push on %d of %d: error %d", c, v, e)
	}
	return g
}

func popped(t *testing.T, h api.Heap, c int) (api.Heap, int) {
	t.Helper()
	g, v, e := Pop(h, c)
	if e != api.OK {
		t.Fatalf("Pop of %d: error %d", c, e)
	}
	return g, v
}

// model is a context, told in another way: temporaries, what was pushed, and where it is.
type model struct {
	temps, pushed []int
	instrs, ip    int
}

func models() map[int]*model {
	l := map[int]*model{}
	for _, c := range contexts() {
		x, _ := seenByWords(few(), c)
		area := few().Objs[c/2].Slots[6:]
		l[c] = &model{slices.Clone(area[:x.has.Temps]), slices.Clone(area[x.has.Temps:x.sp]), len(x.has.Code), x.ip}
	}
	return l
}

// TestP12_5_ManyCalls goes on from heap to heap, and holds four contexts against four models: none touches another one.
func TestP12_5_ManyCalls(t *testing.T) {
	h, l, s := few(), models(), spread(1)
	for range 20000 {
		c := s.of(contexts())
		m, v, k := l[c], s.of(manyLits()), s.below(9)-1
		if v%2 == 0 || s.below(4) == 0 {
			v = 2 * s.below(20)
		}
		var e, want api.Errno
		switch s.below(5) {
		case 0, 1:
			h, e = Push(h, c, v)
			if len(m.temps)+len(m.pushed) == 16 {
				want = api.ErrStack
			} else {
				m.pushed = append(m.pushed, v)
			}
		case 2:
			var got int
			h, got, e = Pop(h, c)
			v = 0
			if n := len(m.pushed); n == 0 {
				want = api.ErrStack
			} else {
				v, m.pushed = m.pushed[n-1], m.pushed[:n-1]
			}
			if got != v {
				t.Fatalf("Pop of %d: %d; want %d", c, got, v)
			}
		case 3:
			h, e = SetTemp(h, c, k, v)
			if k < 0 || k >= len(m.temps) {
				want = api.ErrStack
			} else {
				m.temps[k] = v
			}
		case 4:
			h, e = Go(h, c, k)
			if k < 0 || k >= m.instrs {
				want = api.ErrFrame
			} else {
				m.ip = k
			}
		}
		if e != want {
			t.Fatalf("one of many calls: error %d; want %d", e, want)
		}
		wantModels(t, h, l)
	}
}

// wantModels holds all of h against the models.
func wantModels(t *testing.T, h api.Heap, l map[int]*model) {
	t.Helper()
	want := few()
	for c, m := range l {
		counts := slices.Concat(m.temps, m.pushed)
		slots := append(want.Objs[c/2].Slots[:6:6], counts...)
		slots[1], slots[2] = 2*m.ip+1, 2*len(counts)+1
		want.Objs[c/2].Slots = append(slots, make([]int, 16-len(counts))...)
		for k, v := range m.temps {
			if got, e := Temp(h, c, k); got != v || e != api.OK {
				t.Fatalf("temporary %d of %d: %d, error %d; want %d", k, c, got, e, v)
			}
		}
		if ip, _, e := At(h, c); ip != m.ip || e != api.OK {
			t.Fatalf("At of %d: %d, error %d; want %d", c, ip, e, m.ip)
		}
	}
	if !heap.May(h) || !isSame(h, want) {
		t.Fatalf("the heap is\n%s; want\n%s", told(h), told(want))
	}
}

// TestP12_ByWords asks all of many heaps: few turned in some slots, and such as may not be.
func TestP12_ByWords(t *testing.T) {
	s := spread(2)
	count := map[bool]int{}
	for range 4000 {
		h := s.heap()
		for _, v := range []int{14, 20, 26, 32, 34, 36, 38, s.anyInt(), s.anyInt()} {
			has, ok := methodByWords(h, v)
			wantMethod(t, "one of many", h, v, has, ok)
			x, ok := seenByWords(h, v)
			wantMay(t, "one of many", h, v, ok)
			count[ok]++
			w, k := s.anyInt(), s.of([]int{0, x.has.Temps - 1, x.has.Temps, len(x.has.Code) - 1, len(x.has.Code), s.anyInt()})
			wantPush(t, "one of many", h, v, w, pushByWords(h, v, w))
			wantPop(t, "one of many", h, v, popByWords(h, v))
			wantTemp(t, "one of many", h, v, k, tempByWords(h, v, k))
			wantSetTemp(t, "one of many", h, v, k, w, setTempByWords(h, v, k, w))
			wantGo(t, "one of many", h, v, k, goByWords(h, v, k))
			wantAt(t, "one of many", h, v, atByWords(h, v))
		}
		sender, m, receiver, home := s.anyInt(), s.of(methods()), s.anyInt(), s.anyInt()
		has, _ := methodByWords(h, m)
		args := make([]int, has.Args)
		for k := range args {
			args[k] = s.of([]int{0, 7, 38, s.anyInt()})
		}
		wantNew(t, "one of many", h, sender, m, receiver, home, args, newByWords(h, sender, m, receiver, home, args))
		wantNew(t, "one of many", h, 0, m, receiver, 32, args, newByWords(h, 0, m, receiver, 32, args))
	}
	if count[true] < 5000 || count[false] < 5000 {
		t.Errorf("contexts, and what is none: %v", count)
	}
}

// TestR1_AllArguments: each call ends, whatever heap and numbers it is given; of heaps that may not be nothing is told.
func TestR1_AllArguments(t *testing.T) {
	s := spread(3)
	heaps := []api.Heap{few(), {}, {Cap: 1}, {Cap: 256, Objs: make([]api.Obj, 256)}, {Cap: 20, Objs: slices.Repeat([]api.Obj{{Class: 12, Slots: make([]int, 22)}}, 20)}, {Cap: 20, Objs: slices.Repeat([]api.Obj{{Class: signed, Kind: highest, Slots: []int{signed, highest}, Text: "a", Bits: 7, Hash: -1}}, 20), Last: signed}}
	for range 20000 {
		h := heaps[s.below(len(heaps))]
		a, b, c, d := s.anyInt(), s.anyInt(), s.anyInt(), s.anyInt()
		args := []int{s.anyInt(), s.anyInt(), s.anyInt(), s.anyInt(), s.anyInt()}[:s.below(6)]
		has, ok := methodByWords(h, a)
		wantMethod(t, "any", h, a, has, ok)
		wantSeen(t, "any", h, a)
		wantNew(t, "any", h, a, b, c, d, args, newByWords(h, a, b, c, d, args))
		wantPush(t, "any", h, a, b, pushByWords(h, a, b))
		wantTemp(t, "any", h, a, b, tempByWords(h, a, b))
		wantSetTemp(t, "any", h, a, b, c, setTempByWords(h, a, b, c))
		wantGo(t, "any", h, a, b, goByWords(h, a, b))
	}
}

// TestR3_NothingIsKept: what was asked before does not count.
func TestR3_NothingIsKept(t *testing.T) {
	for range 3 {
		wantSeen(t, "first", few(), 32)
		wantSeen(t, "between", api.Heap{}, 32)
		wantSeen(t, "another heap", turnedSlot(16, 1, 5), 32)
		wantSeen(t, "another method", turnedObj(8, func(o *api.Obj) { o.Text = "\x07\x00\x07\x00\x0e\x00" }), 32)
		wantHas(t, "another method", turnedObj(9, func(o *api.Obj) { o.Slots = []int{8, 9} }), 14)
		wantHas(t, "again", few(), 14)
	}
	// One heap that is written into from call to call.
	h := few()
	for k := range 50 {
		h.Objs[9].Slots[0] = 2*k + 1
		h.Objs[16].Slots[1] = 2*(k%3) + 1
		h.Objs[16].Slots[7] = -2*k - 1
		wantHas(t, "written into", h, 14)
		wantSeen(t, "written into", h, 32)
		wantTemp(t, "written into", h, 32, 1, answer{v: -2*k - 1})
	}
}

// answers are the heaps that calls answer of h, with errors and without.
func answers(h api.Heap) map[string]api.Heap {
	l := map[string]api.Heap{}
	l["New"], _, _ = New(h, 32, 14, 7, 0, []int{9})
	l["New, of a home"], _, _ = New(h, 32, 26, 7, 32, []int{9, 9, 9, 9})
	l["New of no method"], _, _ = New(h, 32, 16, 7, 0, []int{9})
	l["New of no arguments"], _, _ = New(h, 32, 14, 7, 0, nil)
	l["New of no sender"], _, _ = New(h, 40, 14, 7, 0, []int{9})
	l["Push"], _ = Push(h, 32, 7)
	l["Push on none"], _ = Push(h, 14, 7)
	l["Push of no value"], _ = Push(h, 32, 40)
	l["Push on all"], _ = Push(h, 34, 7)
	l["Pop"], _, _ = Pop(h, 32)
	l["Pop of none"], _, _ = Pop(h, 14)
	l["Pop of nothing"], _, _ = Pop(h, 36)
	l["SetTemp"], _ = SetTemp(h, 32, 0, 7)
	l["SetTemp of what was there"], _ = SetTemp(h, 32, 0, 9)
	l["SetTemp of none"], _ = SetTemp(h, 14, 0, 7)
	l["SetTemp of no value"], _ = SetTemp(h, 32, 0, 40)
	l["SetTemp of no place"], _ = SetTemp(h, 32, 2, 7)
	l["Go"], _ = Go(h, 32, 0)
	l["Go to where it is"], _ = Go(h, 32, 1)
	l["Go of none"], _ = Go(h, 14, 0)
	l["Go to no place"], _ = Go(h, 32, 3)
	h.Cap = 20
	l["New, full"], _, _ = New(h, 32, 14, 7, 0, []int{9})
	h.Cap = 0
	l["New, may not be"], _, _ = New(h, 32, 14, 7, 0, []int{9})
	l["Push, may not be"], _ = Push(h, 32, 7)
	l["Pop, may not be"], _, _ = Pop(h, 32)
	l["SetTemp, may not be"], _ = SetTemp(h, 32, 0, 7)
	l["Go, may not be"], _ = Go(h, 32, 0)
	return l
}

// spoil writes into all memory that the lists of h have, beyond their ends, too.
func spoil(h api.Heap) {
	for i := range h.Objs {
		spoilSlots(h.Objs[i].Slots)
	}
	all := h.Objs[:cap(h.Objs)]
	for i := range all {
		all[i] = api.Obj{Class: 99, Kind: 99, Text: "spoilt", Bits: 99, Hash: 99}
	}
}

func spoilSlots(l []int) {
	l = l[:cap(l)]
	for i := range l {
		l[i] = 999
	}
}

func wantHeap(t *testing.T, what string, got, want api.Heap) {
	t.Helper()
	if !isSame(got, want) {
		t.Fatalf("%s: the heap\n%s; want\n%s", what, told(got), told(want))
	}
}

// TestR4_NoSharedMemory: neither who writes into an answer changes an argument, nor the other way round.
func TestR4_NoSharedMemory(t *testing.T) {
	for name := range answers(few()) {
		h := few()
		spoil(answers(h)[name])
		wantHeap(t, name+": the argument", h, few())

		h = few()
		g := answers(h)[name]
		want := copyOf(g)
		spoil(h)
		wantHeap(t, name+": the answer", g, want)
	}
}

// TestR4_NoListsInCommon: objects of an argument may have a list in common; those of an answer have not.
func TestR4_NoListsInCommon(t *testing.T) {
	h := few()
	for _, i := range []int{17, 18, 19} {
		h.Objs[i].Slots = h.Objs[16].Slots
	}
	for name, g := range answers(h) {
		for i := range g.Objs {
			want := copyOf(g)
			want.Objs[i].Slots = nil
			spoilSlots(g.Objs[i].Slots)
			rest := copyOf(g)
			rest.Objs[i].Slots = nil
			wantHeap(t, name, rest, want)
		}
	}
	g := pushed(t, h, 32, 7)
	wantHeap(t, "one of four", g, written(h, 32, map[int]int{2: 9, 9: 7}))
}

// TestR4_Method: what a method has is told in memory of its own.
func TestR4_Method(t *testing.T) {
	for _, m := range methods() {
		h := few()
		has, _ := Method(h, m)
		want, _ := methodByWords(few(), m)
		spoil(h)
		if !slices.Equal(has.Lits, want.Lits) || !slices.Equal(has.Code, want.Code) {
			t.Fatalf("Method of %d: %v; want %v", m, has, want)
		}
		h = few()
		has, _ = Method(h, m)
		spoilSlots(has.Lits)
		wantHeap(t, "the argument", h, few())
	}
}

// TestR4_Args: the arguments aren't kept, nor changed; what lies behind them in their memory neither counts nor changes.
func TestR4_Args(t *testing.T) {
	all := []int{1, 3, 5, 7, 9, 11, 13, 15, 17, 19, 21, 23, 25, 27, 29, 31, 33, 35}
	args := slices.Clone(all)[:4]
	want := newByWords(few(), 0, 26, 7, 0, slices.Clone(args))
	g, _, e := New(few(), 0, 26, 7, 0, args)
	if e != api.OK || !slices.Equal(args[:len(all)], all) {
		t.Fatalf("error %d; the arguments are %v", e, args[:len(all)])
	}
	spoilSlots(args)
	wantHeap(t, "the answer", g, want.h)
	args = slices.Clone(all)[:4]
	g, _, _ = New(few(), 0, 26, 7, 0, args)
	spoil(g)
	if !slices.Equal(args[:len(all)], all) {
		t.Fatalf("the arguments are %v", args[:len(all)])
	}
}

// TestR5_EmptyIsNil: an empty list is as good as a nil one.
func TestR5_EmptyIsNil(t *testing.T) {
	empty := turned(func(h *api.Heap) {
		for i := range h.Objs {
			if len(h.Objs[i].Slots) == 0 {
				h.Objs[i].Slots = []int{}
			}
		}
	})
	for _, m := range methods() {
		wantHas(t, "empty", empty, m)
	}
	for _, c := range contexts() {
		wantSeen(t, "empty", empty, c)
	}
	for _, args := range [][]int{nil, {}} {
		wantNew(t, "no arguments", few(), 0, 20, 7, 0, args, newByWords(few(), 0, 20, 7, 0, nil))
		wantNew(t, "no arguments", empty, 0, 14, 7, 0, args, answer{h: empty, e: api.ErrFrame})
	}
	wantHas(t, "no objects", api.Heap{Cap: 1, Objs: []api.Obj{}}, 0)
	wantSeen(t, "no objects", api.Heap{Cap: 1, Objs: []api.Obj{}}, 0)
}
