package shape_test

import (
	"anamnesis/api"
	"anamnesis/shape"
	"fmt"
	"testing"
)

// TestP15_1_Example has 12 objects, all else 0.
func TestP15_1_Example(t *testing.T) {
	wantCheck(t, "the example", least12(), true)
	wantRoots(t, "the example", least12(), []int{0, 2, 4, 6, 8, 10, 12, 14, 16, 18, 20, 22, 0, 0})
}

func TestP15_1_ErrState(t *testing.T) {
	if e := shape.Check(api.State{}); e != 150 {
		t.Errorf("the error is %d", e)
	}
}

// TestP15_1_CheckOfEachNumber turns one number from end to end.
func TestP15_1_CheckOfEachNumber(t *testing.T) {
	wantCheck(t, "few", few(), true)
	for n := -300; n <= 1100; n++ {
		what := fmt.Sprint("number ", n)
		wantCheck(t, what+" of Halt", turned(func(s *api.State) { s.Halt = api.Errno(n) }), 0 <= n && n <= 255)
		wantCheck(t, what+" of Used", turned(func(s *api.State) { s.Used = n }), 0 <= n && n <= 1000)
		wantCheck(t, what+" of Steps", turned(func(s *api.State) { s.Steps = n }), n >= 0)
		wantCheck(t, what+" of Steps from 2^40 on", turned(func(s *api.State) { s.Steps = 1<<40 + n }), n <= 0)
		isRef := 0 <= n && n <= 48 && n%2 == 0
		wantCheck(t, what+" of Proc", turned(func(s *api.State) { s.Proc = n }), isRef)
		wantCheck(t, what+" of Ready", turned(func(s *api.State) { s.Ready = n }), isRef)
	}
}

// TestP15_1_CheckOfAllBounds: the greatest and the least ones together.
func TestP15_1_CheckOfAllBounds(t *testing.T) {
	s := few()
	s.Proc, s.Ready, s.Halt, s.Steps, s.Used = 48, 48, 255, 1<<40, 1000
	s.Heap.Last = mostOfHash
	wantCheck(t, "the greatest", s, true)
	s.Proc, s.Ready, s.Halt, s.Steps, s.Used = 0, 0, 0, 0, 0
	s.Heap.Last = 0
	wantCheck(t, "the least", s, true)
}

// TestP15_1_CheckOfObjects: 12 at least, and as many as there is room for.
func TestP15_1_CheckOfObjects(t *testing.T) {
	for n := range 257 {
		for _, room := range []int{1, 11, 12, 13, n - 1, n, n + 1, 255, 256, 257} {
			s := cutTo(n, room)
			what := fmt.Sprintf("%d objects, room %d", n, room)
			may := n >= 12 && n <= room && room <= 256
			wantCheck(t, what, s, may)
			s.Proc = 2 * max(n-1, 0)
			wantCheck(t, what+", Proc the last one", s, may)
			s.Ready = 2 * n
			wantCheck(t, what+", Ready beyond it", s, false)
		}
	}
}

// TestP15_1_AnyKind: neither of what kind the objects are counts, nor whether Proc is a process.
func TestP15_1_AnyKind(t *testing.T) {
	for i := range few().Heap.Objs {
		for k := range few().Heap.Objs {
			s := few()
			s.Proc, s.Ready = 2*i, 2*k
			wantCheck(t, "any kind", s, true)
			wantRoots(t, "any kind", s, []int{0, 2, 4, 6, 8, 10, 12, 14, 16, 18, 20, 22, 2 * i, 2 * k})
		}
		for _, o := range []api.Obj{{}, {Kind: 1, Text: "x"}, {Kind: 2, Bits: theNaN}, {Slots: []int{7, 2 * i}}} {
			wantCheck(t, "another object", turnedObj(i, func(p *api.Obj) { *p = o }), true)
		}
	}
}

func TestP15_1_RootsByHand(t *testing.T) {
	wantRoots(t, "few", few(), []int{0, 2, 4, 6, 8, 10, 12, 14, 16, 18, 20, 22, 30, 42})
	s := few()
	s.Proc, s.Ready = 42, 30
	wantRoots(t, "turned round", s, []int{0, 2, 4, 6, 8, 10, 12, 14, 16, 18, 20, 22, 42, 30})
	s.Proc, s.Ready = 48, 48
	wantRoots(t, "one for both", s, []int{0, 2, 4, 6, 8, 10, 12, 14, 16, 18, 20, 22, 48, 48})
	s.Proc, s.Ready = 0, 6
	wantRoots(t, "some of the first ones", s, []int{0, 2, 4, 6, 8, 10, 12, 14, 16, 18, 20, 22, 0, 6})
	s.Heap.Objs = s.Heap.Objs[:11]
	wantRoots(t, "11 objects", s, nil)
}

// TestP15_1_NothingOfWhatMayNotBe is P15.2's, and P15.3's, too.
func TestP15_1_NothingOfWhatMayNotBe(t *testing.T) {
	for name, s := range mayNotBe() {
		wantNothing(t, name, s)
	}
}
