package runner_test

import (
	"anamnesis/api"
	"anamnesis/runner"
	"anamnesis/shape"
	"fmt"
	"slices"
	"testing"
)

// TestP18_4_Sums: Run of a sum is Run behind Run.
func TestP18_4_Sums(t *testing.T) {
	s := spread(1)
	for k := range 60 {
		a, x := anyWorld(t, &s)
		n, m := s.of(0, 1, s.below(60)), s.of(0, 1, s.below(60))
		b, y, e := runner.Run(a, x, n)
		b, y, f := runner.Run(b, y, m)
		if e != 0 || f != 0 {
			t.Fatal(k, e, f)
		}
		wantRun(t, fmt.Sprint("world ", k), a, x, n+m, b, y, 0)
	}
	w := forever(t)
	for _, n := range []int{1, 5000, mostAtOnce} {
		b, y, _ := runner.Run(w.s, w.x, n)
		b, y, _ = runner.Run(b, y, mostAtOnce-n)
		wantRun(t, fmt.Sprint("forever, from ", n), w.s, w.x, mostAtOnce, b, y, 0)
	}
}

// TestP18_4_StandsStill: who stands still only counts.
func TestP18_4_StandsStill(t *testing.T) {
	s := spread(2)
	for k := range 15 {
		a, x := anyWorld(t, &s)
		a.Halt = api.Errno(1 + s.below(255))
		for _, n := range []int{0, 1, 15, 16, 17, 100, 1000} {
			b := copyOf(a)
			b.Steps += n
			wantRun(t, fmt.Sprint("world ", k), a, x, n, b, x, 0)
			wantUntil(t, fmt.Sprint("world ", k), a, x, s.of(selectors()...), n, b, x, n, 0)
		}
	}
	w := forever(t)
	w.s.Halt = errIdle
	b := copyOf(w.s)
	b.Steps = mostAtOnce
	wantRun(t, "10000 steps", w.s, w.x, mostAtOnce, b, w.x, 0)
}

// TestP18_2_ManyWorlds holds Next against the chapter's words, and against what steps do, at each step of many worlds.
func TestP18_2_ManyWorlds(t *testing.T) {
	s := spread(3)
	var sent, not, told, asked, halted int
	for k := range 200 {
		a, x := anyWorld(t, &s)
		w := &world{t, a, x}
		for i := range 40 {
			what := fmt.Sprint("world ", k, ", step ", i)
			m, ok := nextByWords(a)
			wantNext(t, what, a, m, ok)
			if ok {
				sent++
			} else {
				not++
			}
			is, was := w.wantTold(what, a)
			told += count(is)
			asked += count(was)
			a, x, _ = byDo(a, x, 1)
		}
		halted += count(a.Halt != 0)
	}
	if sent < 1000 || not < 2000 || told < 1500 || asked-told < 200 || halted < 50 || halted > 150 {
		t.Errorf("%d states send, %d do not; %d messages were told, of %d; %d worlds stand still", sent, not, told, asked, halted)
	}
}

func count(is bool) int {
	if is {
		return 1
	}
	return 0
}

// TestP18_3_ManyWorlds holds Until, and Run, against the chapter's words.
func TestP18_3_ManyWorlds(t *testing.T) {
	s := spread(4)
	var early, late int
	for k := range 150 {
		a, x := anyWorld(t, &s)
		for range 4 {
			sel, n := s.of(201, 203, 205, 209, s.of(selectors()...)), s.below(50)
			b, y, j, e := untilByWords(a, x, sel, n)
			wantUntil(t, fmt.Sprint("world ", k), a, x, sel, n, b, y, j, e)
			early += count(j < n)
			late += count(j == n)
			if shape.Check(b) != 0 {
				t.Fatalf("world %d: what comes may not be", k)
			}
			b, y, e = byDo(a, x, n)
			wantRun(t, fmt.Sprint("world ", k), a, x, n, b, y, e)
		}
	}
	if early < 100 || late < 100 {
		t.Errorf("%d ended ahead of a message, %d behind all steps", early, late)
	}
}

// TestR1_AllArguments: no call panics, and each ends, whatever stands in a state, or on a tape.
func TestR1_AllArguments(t *testing.T) {
	s := spread(5)
	may := 0
	for k := range 1500 {
		a, x := anyWorld(t, &s)
		b := spoilt(&s, a)
		if s.below(8) == 0 {
			x.Log = append(x.Log, s.next())
		}
		what := fmt.Sprint("all arguments ", k)
		n := s.of(0, 1, 2, 30, s.next(), -1, mostAtOnce+1)
		c, y, j, e := untilByWords(b, x, 203, n)
		wantUntil(t, what, b, x, 203, n, c, y, j, e)
		c, y, e = byDo(b, x, min(max(n, 0), 30))
		if n < 0 || n > mostAtOnce {
			c, y, e = api.State{}, api.Tape{}, errArg
		}
		wantRun(t, what, b, x, n, c, y, e)
		for range 20 {
			m, ok := nextByWords(b)
			wantNext(t, what, b, m, ok)
			if b, x, e = byDo(b, x, 1); e != 0 {
				break
			}
		}
		may += count(e == 0)
	}
	if may < 300 || may > 1200 {
		t.Errorf("%d of these may be", may)
	}
}

// TestR1_Long: very many objects, and inputs.
func TestR1_Long(t *testing.T) {
	w := circle(t)
	long := copyOf(w.s)
	long.Heap.Objs = append(long.Heap.Objs, make([]api.Obj, 1<<18)...)
	if _, ok := runner.Next(long); ok {
		t.Error("very many objects: a message")
	}
	for _, n := range []int{0, mostAtOnce} {
		wantRun(t, "very many objects", long, w.x, n, api.State{}, api.Tape{}, errState)
		for _, x := range []api.Tape{{Log: make([]int, 1<<22)}, {Rest: make([]int, 1<<22)}} {
			wantRun(t, "very many inputs", w.s, x, n, api.State{}, api.Tape{}, errTape)
			wantUntil(t, "very many inputs", w.s, x, 51, n, api.State{}, api.Tape{}, 0, errTape)
		}
	}
}

// TestR3_NothingIsKept: what was asked before does not count.
func TestR3_NothingIsKept(t *testing.T) {
	s := spread(6)
	a, x := anyWorld(t, &s)
	after, tape, k, _ := untilByWords(a, x, 203, 20)
	m, ok := nextByWords(after)
	for range 60 {
		b, y := anyWorld(t, &s)
		runner.Run(b, y, 10)
		runner.Until(b, y, 201, 10)
		runner.Next(b)
		wantUntil(t, "the same", a, x, 203, 20, after, tape, k, 0)
		wantNext(t, "the same", after, m, ok)
	}
}

// spoilAll writes into all memory that a list has, beyond its end, too.
func spoilAll(l []int) {
	l = l[:cap(l)]
	for i := range l {
		l[i] = 999
	}
}

func spoilState(s api.State, x api.Tape) {
	l := s.Heap.Objs[:cap(s.Heap.Objs)]
	for i := range l {
		spoilAll(l[i].Slots)
		l[i] = api.Obj{Class: 998, Kind: 5}
	}
	spoilAll(x.Log)
	spoilAll(x.Rest)
}

// TestR4_NoSharedMemory: neither who writes into an answer changes an argument, nor the other way round.
func TestR4_NoSharedMemory(t *testing.T) {
	run := func(n int) func(s api.State, x api.Tape) (api.State, api.Tape) {
		return func(s api.State, x api.Tape) (api.State, api.Tape) {
			a, y, _ := runner.Run(s, x, n)
			return a, y
		}
	}
	until := func(sel, n int) func(s api.State, x api.Tape) (api.State, api.Tape) {
		return func(s api.State, x api.Tape) (api.State, api.Tape) {
			a, y, _, _ := runner.Until(s, x, sel, n)
			return a, y
		}
	}
	s := spread(7)
	calls := []func(s api.State, x api.Tape) (api.State, api.Tape){run(0), run(1), run(20), until(203, 0), until(203, 1), until(203, 20), until(201, 30)}
	for k := range 140 {
		a, x := anyWorld(t, &s)
		if k%5 == 0 {
			a.Halt = errIdle
		}
		do := calls[k%len(calls)]
		b, y := copyOf(a), copyOfTape(x)
		after, tape := do(b, y)
		was, wasTape := copyOf(after), copyOfTape(tape)
		spoilState(b, y)
		if len(after.Heap.Objs) == 0 || !isSame(after, was) || !isSameTape(tape, wasTape) {
			t.Fatalf("world %d: the arguments are spoilt, and the answer, too", k)
		}
		b, y = copyOf(a), copyOfTape(x)
		after, tape = do(b, y)
		spoilState(after, tape)
		if !isSame(a, b) || !isSameTape(x, y) {
			t.Fatalf("world %d: the answer is spoilt, and the arguments, too", k)
		}
	}
}

// TestR4_NoListTwice: where an argument's lists share memory, those of the answer do not.
func TestR4_NoListTwice(t *testing.T) {
	for n := range 4 {
		w := circle(t)
		one := []int{7, 9, 7, 9}
		w.s.Heap.Objs[15].Slots, w.s.Heap.Objs[18].Slots = one[:2], one[1:3]
		w.s.Heap.Objs = append(w.s.Heap.Objs, api.Obj{Slots: one})
		inputs := []int{1, 2, 3, 4}
		w.x = api.Tape{Log: inputs[:2], Rest: inputs[1:]}
		a, y, _ := runner.Run(w.s, w.x, n)
		was := copyOf(a)
		spoilAll(y.Log)
		if !slices.Equal(y.Rest, []int{2, 3, 4}) {
			t.Errorf("Run of %d: Log is spoilt, and Rest is %v", n, y.Rest)
		}
		for i := range a.Heap.Objs {
			spoilAll(a.Heap.Objs[i].Slots)
			for j := i + 1; j < len(a.Heap.Objs); j++ {
				if !isPair(a.Heap.Objs[j], was.Heap.Objs[j]) {
					t.Fatalf("Run of %d: object %d is spoilt, and object %d, too", n, i, j)
				}
			}
		}
	}
}

// TestR5_EmptyIsNil: an empty list is as good as a nil one.
func TestR5_EmptyIsNil(t *testing.T) {
	for _, l := range [][]int{nil, {}, make([]int, 0, 5)} {
		for _, r := range [][]int{nil, {}, make([]int, 0, 5)} {
			w := circle(t)
			w.s.Heap.Objs[0].Slots, w.s.Heap.Objs[11].Slots = l, r
			same := circle(t)
			for _, n := range []int{0, 1, 20} {
				s, x, _ := byDo(same.s, same.x, n)
				wantRun(t, "empty lists", w.s, api.Tape{Log: l, Rest: r}, n, s, x, 0)
				s, x, k, _ := untilByWords(same.s, same.x, 53, n)
				wantUntil(t, "empty lists", w.s, api.Tape{Log: l, Rest: r}, 53, n, s, x, k, 0)
			}
			w.s, _, _ = runner.Run(w.s, w.x, 1)
			wantNext(t, "empty lists", w.s, api.Sent{Sel: 51, Receiver: 7}, true)
		}
	}
}
