package step_test

import (
	"anamnesis/api"
	"anamnesis/step"
	"fmt"
	"testing"
)

func newTally() *tally { return &tally{halts: map[api.Errno]int{}} }

// TestR1_AllArguments: no call panics, and each ends, whatever stands in a state, or on a tape.
func TestR1_AllArguments(t *testing.T) {
	s := spread(11)
	anyInt := func() int {
		switch s.below(4) {
		case 0:
			return s.next()
		case 1:
			return s.of(signed, signed+1, highest, highest-1, -1, -2, greatest, least, greatest+1, least-1, 1<<20, 1<<21, 1<<32)
		}
		return s.below(80) - 5
	}
	may := 0
	for k := range 2000 {
		a, x := anyWorld(t, &s)
		for range 1 + s.below(2) {
			spoil(&s, &a, &x, anyInt)
		}
		b, y, e := doByWords(a, x, newTally())
		wantDo(t, fmt.Sprint("all arguments ", k), a, x, b, y, e)
		if e == 0 {
			may++
			wantWords(t, fmt.Sprint("all arguments, on from ", k), b, y, 20, newTally())
		}
		step.Context(a)
	}
	if may < 400 || may > 1600 {
		t.Errorf("%d of these may be", may)
	}
}

// spoil lays a number into a state, or a tape, wherever it is.
func spoil(s *spread, a *api.State, x *api.Tape, anyInt func() int) {
	o := &a.Heap.Objs[s.below(len(a.Heap.Objs))]
	switch s.below(16) {
	case 0:
		a.Proc = anyInt()
	case 1:
		a.Ready = anyInt()
	case 2:
		a.Halt = api.Errno(anyInt())
	case 3:
		a.Steps = anyInt()
	case 4:
		a.Used = anyInt()
	case 5:
		a.Heap.Cap = anyInt()
	case 6:
		a.Heap.Last = anyInt()
	case 7:
		o.Class = anyInt()
	case 8:
		o.Kind = s.below(5) - 1
	case 9:
		o.Text += "\x00\x01"
	case 10:
		o.Slots = append(o.Slots, anyInt())
	case 11:
		o.Slots = o.Slots[:s.below(len(o.Slots)+1)]
	case 12:
		x.Log = append(x.Log, anyInt())
	case 13:
		x.Rest = append(x.Rest, anyInt())
	default:
		if len(o.Slots) > 0 {
			o.Slots[s.below(len(o.Slots))] = anyInt()
		}
	}
}

// TestR1_Long: very many objects, and inputs.
func TestR1_Long(t *testing.T) {
	w := newCode(t)
	long := copyOf(w.s)
	long.Heap.Objs = append(long.Heap.Objs, make([]api.Obj, 1<<20)...)
	wantContext(t, "very many objects", long, 0, errState)
	if _, _, e := step.Do(long, api.Tape{}); e != errState {
		t.Errorf("very many objects: error %d", e)
	}
	for _, x := range []api.Tape{{Log: make([]int, 1<<22)}, {Rest: make([]int, 1<<22)}} {
		wantDo(t, "very many inputs", w.s, x, api.State{}, api.Tape{}, errTape)
	}
}

// TestR3_NothingIsKept: what was asked before does not count.
func TestR3_NothingIsKept(t *testing.T) {
	s := spread(12)
	a, x := anyWorld(t, &s)
	for range 100 {
		b, y := anyWorld(t, &s)
		wantWords(t, "another", b, y, 3, newTally())
		wantWords(t, "the same", a, x, 3, newTally())
	}
}

// spoilAll writes into all memory that a list has, beyond its end, too.
func spoilAll(l []int) {
	l = l[:cap(l)]
	for i := range l {
		l[i] = 999
	}
}

func spoilState(s api.State, x api.Tape) {
	l := s.Heap.Objs[:cap(s.Heap.Objs)]
	for i := range l {
		spoilAll(l[i].Slots)
		l[i] = api.Obj{Class: 998, Kind: 5}
	}
	spoilAll(x.Log)
	spoilAll(x.Rest)
}

// TestR4_NoSharedMemory: neither who writes into an answer changes an argument, nor the other way round.
func TestR4_NoSharedMemory(t *testing.T) {
	s := spread(13)
	for k := range 300 {
		a, x := anyWorld(t, &s)
		// Each sort of step: one that is done, a tick, one of nobody, one that stands still, one that fails.
		switch k % 6 {
		case 1:
			a.Steps = 15
		case 2:
			a.Halt = 5
		case 3:
			a.Proc, a.Ready = 0, 0
		case 4:
			a.Proc = 0
		case 5:
			a.Proc = box
		}
		b, y := copyOf(a), copyOfTape(x)
		after, tape, e := step.Do(b, y)
		was, wasTape := copyOf(after), copyOfTape(tape)
		spoilState(b, y)
		if e != 0 || !isSame(after, was) || !isSameTape(tape, wasTape) {
			t.Fatalf("world %d: the arguments are spoilt, and the answer, too", k)
		}
		b, y = copyOf(a), copyOfTape(x)
		after, tape, _ = step.Do(b, y)
		spoilState(after, tape)
		if !isSame(a, b) || !isSameTape(x, y) {
			t.Fatalf("world %d: the answer is spoilt, and the arguments, too", k)
		}
		_, tape, _ = step.Do(b, y)
		spoilAll(tape.Log)
		if !isSameTape(api.Tape{Rest: tape.Rest}, api.Tape{Rest: wasTape.Rest}) {
			t.Fatalf("world %d: one list of the tape is spoilt, and the other one, too", k)
		}
	}
}

// TestR5_EmptyIsNil: an empty list is as good as a nil one.
func TestR5_EmptyIsNil(t *testing.T) {
	w := newCode(t)
	c := w.slots(w.s.Proc)[1]
	w.s.Heap.Objs[13].Slots = []int{}
	w.s.Heap.Objs[0].Slots = make([]int, 0, 4)
	for _, l := range [][]int{nil, {}, make([]int, 0, 5)} {
		for _, r := range [][]int{nil, {}, make([]int, 0, 5)} {
			w.x = api.Tape{Log: l, Rest: r}
			w.s.Steps = 100
			w.wantThen("a push", func(w *world) { w.at(c, 1); w.pushed(c, box) })
			w.s.Steps = 15
			w.wantThen("a tick", func(w *world) { w.s.Used, w.x.Log = 1, []int{0} })
		}
	}
	empty := idle()
	empty.Heap.Objs[3].Slots = []int{}
	after := idle()
	after.Halt, after.Steps = errIdle, 1
	wantDo(t, "empty slots", empty, api.Tape{Log: []int{}}, after, api.Tape{}, 0)
}
