package shape_test

import (
	"anamnesis/api"
	"anamnesis/shape"
	"slices"
	"testing"
)

func collected(t *testing.T, s api.State) api.State {
	t.Helper()
	c, e := shape.Collect(s)
	if e != api.OK {
		t.Fatalf("Collect: error %d of\n%s", e, told(s))
	}
	return c
}

// wantCollected: what is collected is the same, once more changes nothing, and objects 0 to 11 keep their numbers.
func wantCollected(t *testing.T, s api.State) {
	t.Helper()
	c := collected(t, s)
	wantSame(t, "collected", s, c, true)
	wantCheck(t, "collected", c, true)
	wantUnchanged(t, "collected once more", collected(t, c), c)
	for i, o := range c.Heap.Objs[:12] {
		p := s.Heap.Objs[i]
		if o.Kind != p.Kind || o.Text != p.Text || o.Bits != p.Bits || o.Hash != p.Hash || len(o.Slots) != len(p.Slots) {
			t.Fatalf("object %d is\n%+v; it was\n%+v", i, o, p)
		}
		for k, v := range append([]int{o.Class}, o.Slots...) {
			// Who holds one of the first ones, or a SmallInteger, holds it still.
			if was := append([]int{p.Class}, p.Slots...)[k]; (was < 24 || was%2 != 0) && v != was {
				t.Fatalf("object %d holds %d; it held %d", i, v, was)
			}
		}
	}
	for i := range 12 {
		at := copyOf(s)
		at.Proc, at.Ready = 2*i, 2*(11-i)
		if c := collected(t, at); c.Proc != 2*i || c.Ready != 2*(11-i) {
			t.Fatalf("objects %d and %d are at %d and %d", i, 11-i, c.Proc, c.Ready)
		}
	}
}

func TestP15_4_Collected(t *testing.T) {
	wantCollected(t, few())
	wantCollected(t, least12())
	s := spread(2)
	for range 1000 {
		wantCollected(t, s.state(12+s.below(40), 1<<30))
	}
	wantCollected(t, s.state(256, 3))
}

// TestP15_ManyStates holds all calls against the chapter's words, over states that are anyhow.
func TestP15_ManyStates(t *testing.T) {
	s := spread(3)
	gone, same, all := 0, 0, 0
	for range 1500 {
		n := 12 + s.below(30)
		a := s.state(n, 1+s.below(3))
		b := renumbered(a, s.order(12, n))
		if s.below(2) == 0 {
			b = renumbered(a, s.order(s.below(12), n))
		}
		if o := &b.Heap.Objs[s.below(n)]; s.below(2) == 0 && len(o.Slots) > 0 {
			o.Slots[s.below(len(o.Slots))] = 2 * s.below(n)
		}
		wantWords(t, "many states", a, b, collected(t, b), few())
		wantWords(t, "many states", b, a, collected(t, a))
		if all++; sameByWords(a, b) {
			same++
		}
		if len(reachedByWords(a)) < n {
			gone++
		}
	}
	if same < 300 || all-same < 300 || gone < 300 || all-gone < 50 {
		t.Errorf("of %d states %d are the same, and of %d objects are not reached", all, same, gone)
	}
}

// TestR1_AllArguments: no call panics, and each ends.
func TestR1_AllArguments(t *testing.T) {
	s := spread(4)
	may := 0
	for range 3000 {
		a := few()
		for range 1 + s.below(3) {
			o := &a.Heap.Objs[s.below(25)]
			switch s.below(10) {
			case 0:
				o.Class = s.anyInt()
			case 1:
				o.Kind = s.below(5) - 1
			case 2:
				o.Slots = append(o.Slots, s.anyInt())
			case 3:
				a.Proc = s.anyInt()
			case 4:
				a.Ready = s.anyInt()
			case 5:
				a.Halt = api.Errno(s.anyInt())
			case 6:
				a.Steps = s.anyInt()
			case 7:
				a.Used = s.anyInt()
			case 8:
				a.Heap.Objs = append(a.Heap.Objs[:12:12], a.Heap.Objs[12+s.below(len(a.Heap.Objs)-11):]...)
				a.Heap.Objs = append(a.Heap.Objs, few().Heap.Objs[len(a.Heap.Objs):]...)
			case 9:
				a.Heap.Cap = s.anyInt()
			}
		}
		if mayByWords(a) {
			may++
		}
		wantWords(t, "all arguments", a, few(), api.State{})
	}
	if may < 300 {
		t.Errorf("%d of these may be", may)
	}
}

// TestR3_NothingIsKept: what was asked before does not count.
func TestR3_NothingIsKept(t *testing.T) {
	s := few()
	for k := range 50 {
		wantWords(t, "first", few(), s)
		wantWords(t, "between", api.State{}, s)
		wantWords(t, "another", least12(), few())
		// One state that is written into from call to call.
		s.Heap.Objs[15].Slots[1], s.Heap.Objs[21].Slots[0] = 2*(k%25), []int{0, 50, 28, 38, 44}[k%5]
		s.Proc, s.Halt = []int{30, 48, 1, 42}[k%4], api.Errno(k*7)
		wantWords(t, "written into", s, few())
	}
}

// spoil writes into all memory that the lists of s have, beyond their ends, too.
func spoil(s api.State) {
	for i := range s.Heap.Objs {
		spoilInts(s.Heap.Objs[i].Slots)
	}
	all := s.Heap.Objs[:cap(s.Heap.Objs)]
	for i := range all {
		all[i] = api.Obj{Class: 99, Kind: 99, Text: "spoilt", Bits: 99, Hash: 99}
	}
}

func spoilInts(l []int) {
	l = l[:cap(l)]
	for i := range l {
		l[i] = 999
	}
}

// TestR4_NoSharedMemory: neither who writes into an answer changes an argument, nor the other way round; nor does one answer's list change another's.
func TestR4_NoSharedMemory(t *testing.T) {
	for _, made := range []func() api.State{few, least12, func() api.State { return left(few(), reachedByWords(few())) }, func() api.State { return turned(func(s *api.State) { s.Used = 1001 }) }} {
		s := made()
		c, _ := shape.Collect(s)
		spoil(c)
		wantUnchanged(t, "the answer is spoilt", s, made())
		c, _ = shape.Collect(s)
		want := copyOf(c)
		spoil(s)
		wantUnchanged(t, "the state is spoilt", c, want)

		s = made()
		l, other := shape.Roots(s), shape.Roots(s)
		spoilInts(l)
		wantUnchanged(t, "the roots are spoilt", s, made())
		if !slices.Equal(other, rootsByWords(s)) || !slices.Equal(shape.Roots(s), rootsByWords(s)) {
			t.Errorf("the roots are %v and %v", other, shape.Roots(s))
		}
	}
}

// TestR4_NoListsInCommon: objects of an argument may have a list in common; those of an answer have not.
func TestR4_NoListsInCommon(t *testing.T) {
	s := few()
	common := []int{34, 42, 7}
	for _, i := range []int{3, 15, 17, 21} {
		s.Heap.Objs[i].Slots = common
	}
	wantWords(t, "in common", s, few())
	c := collected(t, s)
	for i := range c.Heap.Objs {
		want := copyOf(c)
		want.Heap.Objs[i].Slots = nil
		spoilInts(c.Heap.Objs[i].Slots)
		rest := copyOf(c)
		rest.Heap.Objs[i].Slots = nil
		wantUnchanged(t, "one list is spoilt", rest, want)
	}
}

// TestR4_RoomBehind: what lies behind a list in its memory is not written into.
func TestR4_RoomBehind(t *testing.T) {
	s := few()
	objs := append(s.Heap.Objs, api.Obj{Hash: 5}, api.Obj{Hash: 6})
	s.Heap.Objs = objs[:25]
	slots := append(s.Heap.Objs[15].Slots, 5, 6)
	s.Heap.Objs[15].Slots = slots[:4]
	wantWords(t, "room behind", s, few())
	if objs[25].Hash != 5 || objs[26].Hash != 6 || slots[4] != 5 || slots[5] != 6 {
		t.Fatalf("behind the lists there are %v and %v", objs[25:], slots[4:])
	}
}

// TestR5_EmptyIsNil: an empty list is as good as a nil one.
func TestR5_EmptyIsNil(t *testing.T) {
	lists := func(list func() []int) api.State {
		return turned(func(s *api.State) {
			for i := range s.Heap.Objs {
				if len(s.Heap.Objs[i].Slots) == 0 {
					s.Heap.Objs[i].Slots = list()
				}
			}
		})
	}
	empty, none := lists(func() []int { return []int{} }), lists(func() []int { return nil })
	wantWords(t, "empty", empty, none, few())
	wantWords(t, "nil", none, empty, few())
	if told(collected(t, empty)) != told(collected(t, none)) {
		t.Error("an empty list is collected, and a nil one, to what is not the same")
	}
	for _, objs := range [][]api.Obj{nil, {}} {
		wantWords(t, "no objects", api.State{Heap: api.Heap{Cap: 20, Objs: objs}}, few(), api.State{})
	}
}
