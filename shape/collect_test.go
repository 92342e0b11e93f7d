package shape_test

import (
	"anamnesis/api"
	"fmt"
	"slices"
	"testing"
)

// TestP15_2_CollectByHand tells all that is left of few, as it is then.
func TestP15_2_CollectByHand(t *testing.T) {
	want := api.State{Proc: 28, Ready: 34, Halt: 173, Steps: 1000003, Used: 7, Heap: api.Heap{Cap: 27, Last: 77, Objs: append(few().Heap.Objs[:14],
		api.Obj{Class: 14, Slots: []int{0, 30, 7, 0}, Hash: 10},
		api.Obj{Class: 32, Slots: []int{28, greatest, least, 30, 31}},
		api.Obj{Class: 8, Kind: 2, Bits: theNaN, Hash: 11},
		api.Obj{Class: 14, Slots: []int{36, 2, 5, 0}, Hash: 12},
		api.Obj{Class: 14, Slots: []int{0, 38, 5, 34}, Hash: 13},
		api.Obj{Class: 38, Slots: []int{38, 26}, Hash: 14},
	)}}
	wantCollect(t, "few", few(), want, api.OK)
	wantCollect(t, "once more", want, want, api.OK)
	wantCollect(t, "the example", least12(), least12(), api.OK)
}

// TestP15_2_WhoIsReached: what is left hangs on Proc and Ready, each for itself.
func TestP15_2_WhoIsReached(t *testing.T) {
	first := []int{0, 1, 2, 3, 4, 5, 6, 7, 8, 9, 10, 11, 12, 13}
	for _, x := range []struct {
		proc, ready int
		more        []int
		to, fro     int
	}{
		{0, 0, nil, 0, 0},
		{22, 6, nil, 22, 6},
		{26, 24, nil, 26, 24},
		{0, 42, []int{21, 22, 23}, 0, 28},
		{42, 0, []int{21, 22, 23}, 28, 0},
		{30, 0, []int{15, 17, 18}, 28, 0},
		{0, 30, []int{15, 17, 18}, 0, 28},
		{36, 34, []int{15, 17, 18}, 32, 30},
		{46, 36, []int{18, 23}, 30, 28},
		{46, 46, []int{23}, 28, 28},
		{38, 38, []int{19}, 28, 28},
		{28, 28, []int{14, 15, 16, 17, 18, 20, 21, 22, 23}, 28, 28},
		{48, 38, []int{14, 15, 16, 17, 18, 19, 20, 21, 22, 23, 24}, 48, 38},
		{40, 30, []int{15, 17, 18, 20, 21, 22, 23}, 34, 28},
	} {
		s := few()
		s.Proc, s.Ready = x.proc, x.ready
		want := left(s, append(slices.Clone(first), x.more...))
		if want.Proc != x.to || want.Ready != x.fro {
			t.Fatalf("%d and %d are to be %d and %d", x.proc, x.ready, x.to, x.fro)
		}
		wantCollect(t, fmt.Sprintf("Proc %d, Ready %d", x.proc, x.ready), s, want, api.OK)
	}
}

// TestP15_2_NumbersStay: all that is not of objects is as it was.
func TestP15_2_NumbersStay(t *testing.T) {
	for _, do := range []func(s *api.State){
		func(s *api.State) { s.Halt = 0 },
		func(s *api.State) { s.Halt = 255 },
		func(s *api.State) { s.Steps = 0 },
		func(s *api.State) { s.Steps = 1 << 40 },
		func(s *api.State) { s.Used = 0 },
		func(s *api.State) { s.Used = 1000 },
		func(s *api.State) { s.Heap.Cap = 25 },
		func(s *api.State) { s.Heap.Cap = 256 },
		func(s *api.State) { s.Heap.Last = 0 },
		func(s *api.State) { s.Heap.Last = mostOfHash },
	} {
		s := turned(do)
		want := left(few(), reachedByWords(few()))
		do(&want)
		wantCollect(t, "another number", s, want, api.OK)
	}
}

// TestP15_2_Full: as many objects as there may be, of which all are reached, or none but the first ones, or each other one.
func TestP15_2_Full(t *testing.T) {
	for name, next := range map[string]func(i int) int{
		"a row":        func(i int) int { return min(i+1, 255) },
		"a row back":   func(i int) int { return max(i-1, 0) },
		"apart":        func(i int) int { return i },
		"the next but": func(i int) int { return min(i+2, 254+i%2) },
	} {
		s := cutTo(256, 256)
		for i := range s.Heap.Objs {
			s.Heap.Objs[i] = api.Obj{Class: 2 * i, Slots: slices.Repeat([]int{2 * next(i)}, 64), Hash: i}
		}
		for _, at := range []int{0, 22, 24, 26, 256, 508, 510} {
			s.Proc, s.Ready = at, 0
			wantWords(t, name, s)
			s.Proc, s.Ready = 0, at
			wantWords(t, name, s)
		}
	}
}
