package runner_test

import (
	"anamnesis/api"
	"anamnesis/code"
	"anamnesis/runner"
	"anamnesis/step"
	"fmt"
	"slices"
	"strings"
	"testing"
)

// The bounds and errors stand here as numbers of their own, so that a test doesn't follow the code into a mistake.
const (
	greatest    = 2147483647 // the value of the greatest SmallInteger
	mostAtOnce  = 10000
	mostOfSteps = 1099511627776
	signed      = -1 << 63
	highest     = 1<<63 - 1

	errArg   = 1
	errFull  = 30
	errStack = 121
	errState = 150
	errTape  = 160
	errIdle  = 170
)

// What the objects of plain are.
const (
	root  = 24 // the class of nearly all, without a super
	dict  = 26 // its dictionary
	above = 28 // a class under it, that understands nothing by itself
	box   = 30 // two slots: 7, 9
	text  = 32 // the bytes "ab"
	sem   = 34 // a semaphore, count 0, nobody waits
	below = 36 // an instance of the class above
)

// plain are the first 12 objects, and those above.
func plain() api.State {
	s := api.State{Heap: api.Heap{Cap: 256, Last: 77, Objs: make([]api.Obj, 12)}}
	for i := range s.Heap.Objs {
		s.Heap.Objs[i].Class = root
		if i >= 3 && i <= 10 {
			s.Heap.Objs[i].Slots = []int{root, 0, 1}
		}
	}
	s.Heap.Objs = append(s.Heap.Objs,
		api.Obj{Class: root, Slots: []int{0, dict, 5}},
		api.Obj{Class: root},
		api.Obj{Class: root, Slots: []int{root, 0, 5}},
		api.Obj{Class: root, Slots: []int{7, 9}, Hash: 3},
		api.Obj{Class: 20, Kind: 1, Text: "ab", Hash: 4},
		api.Obj{Class: 16, Slots: []int{1, 0}},
		api.Obj{Class: above, Slots: []int{1, 1}},
	)
	return s
}

// world is a state and a tape that a test lays out.
type world struct {
	*testing.T
	s api.State
	x api.Tape
}

func newWorld(t *testing.T) *world { return &world{T: t, s: plain()} }

// add lays an object behind; its value.
func (w *world) add(o api.Obj) int {
	w.s.Heap.Objs = append(w.s.Heap.Objs, o)
	return 2 * (len(w.s.Heap.Objs) - 1)
}

func (w *world) slots(v int) []int { return w.s.Heap.Objs[v/2].Slots }

// list lays an array behind; its value.
func (w *world) list(l ...int) int { return w.add(api.Obj{Class: 18, Slots: l}) }

// method lays a method behind, whose instructions are lines with "; " between; its value.
func (w *world) method(prim, args, temps int, lines string, lits ...int) int {
	w.Helper()
	l, e := code.Parse(strings.ReplaceAll(lines, "; ", "\n") + "\n")
	if e != 0 {
		w.Fatalf("the lines %q: error %d", lines, e)
	}
	return w.body(prim, args, temps, l, lits...)
}

// body lays a method behind that has these instructions; its value.
func (w *world) body(prim, args, temps int, l []api.Instr, lits ...int) int {
	w.Helper()
	packed, e := code.Pack(l)
	if e != 0 {
		w.Fatalf("the instructions %v: error %d", l, e)
	}
	s := w.add(api.Obj{Class: 20, Kind: 1, Text: packed})
	return w.add(api.Obj{Class: root, Slots: []int{2*prim + 1, 2*args + 1, 2*temps + 1, s, w.list(lits...)}})
}

// knows makes the root class understand a selector by what is told.
func (w *world) knows(sel, m int) {
	w.s.Heap.Objs[dict/2].Slots = append(w.slots(dict), sel, m)
}

// context lays a context behind, that is its own home, and has the area; its value. (What counts of the area are the temporaries, and what stands behind them.)
func (w *world) context(m, receiver int, area ...int) int {
	temps := w.slots(m)[2] / 2
	l := append([]int{0, 1, 2*max(temps, len(area)) + 1, m, receiver, 0}, area...)
	c := w.add(api.Obj{Class: 12, Slots: append(l, make([]int, 22-len(l))...)})
	w.slots(c)[5] = c
	return c
}

// process lays a process behind; its value.
func (w *world) process(c, prio int) int {
	return w.add(api.Obj{Class: 14, Slots: []int{0, c, 2*prio + 1, 0}})
}

// runs makes a process run in a new context of a method; the context's value.
func (w *world) runs(m, receiver int, area ...int) int {
	c := w.context(m, receiver, area...)
	w.s.Proc = w.process(c, 3)
	return c
}

// circle is a world whose process goes round, with 16 steps a round: `lit 0`, then what is at 1, and so on. Each round has three contexts more.
func circle(t *testing.T) *world {
	w := newWorld(t)
	w.knows(51, w.method(0, 0, 0, "self; return"))
	w.knows(53, w.method(0, 1, 1, "temp 0; send 0 0; return", 51))
	w.runs(w.method(0, 0, 0, "lit 0; send 1 0; pop; self; lit 0; send 2 1; pop; jump 0", 7, 51, 53), box)
	return w
}

// sentAt are the messages of a circle, by the steps, modulo 16, ahead of which they are next.
func sentAt(n int) (api.Sent, bool) {
	switch n % 16 {
	case 1, 9:
		return api.Sent{Sel: 51, Receiver: 7}, true
	case 7:
		return api.Sent{Sel: 53, Receiver: box}, true
	}
	return api.Sent{}, false
}

// forever is a world whose process goes round, with nothing new: it sends 57 to 7, which is a sum.
func forever(t *testing.T) *world {
	w := newWorld(t)
	w.knows(57, w.method(1, 1, 1, "self; return"))
	w.runs(w.method(0, 0, 0, "lit 0; lit 0; send 1 1; pop; jump 0", 7, 57), box)
	return w
}

// idle is a state of 12 objects, all else 0.
func idle() api.State { return api.State{Heap: api.Heap{Cap: 12, Objs: make([]api.Obj, 12)}} }

// byDo is what n steps tell, one behind the other, each by layer 17.
func byDo(s api.State, x api.Tape, n int) (api.State, api.Tape, api.Errno) {
	a, y, e := step.Do(s, x)
	if e != 0 || n == 0 {
		return zeroIf(s, x, e)
	}
	for range n - 1 {
		if a, y, e = step.Do(a, y); e != 0 {
			break
		}
	}
	return zeroIf(a, y, e)
}

func zeroIf(s api.State, x api.Tape, e api.Errno) (api.State, api.Tape, api.Errno) {
	if e != 0 {
		return api.State{}, api.Tape{}, e
	}
	return s, x, 0
}

// wantRun holds Run against what it is to answer, and whether the arguments stay as they are.
func wantRun(t *testing.T, what string, s api.State, x api.Tape, n int, after api.State, tape api.Tape, e api.Errno) {
	t.Helper()
	wasS, wasX := copyOf(s), copyOfTape(x)
	a, y, f := runner.Run(s, x, n)
	wantAnswer(t, fmt.Sprint(what, ", Run of ", n), a, y, f, after, tape, e)
	wantSame(t, what, s, x, wasS, wasX)
}

func wantUntil(t *testing.T, what string, s api.State, x api.Tape, sel, n int, after api.State, tape api.Tape, k int, e api.Errno) {
	t.Helper()
	wasS, wasX := copyOf(s), copyOfTape(x)
	a, y, j, f := runner.Until(s, x, sel, n)
	what = fmt.Sprint(what, ", Until of ", sel, " and ", n)
	if j != k {
		t.Fatalf("%s: %d steps; want %d", what, j, k)
	}
	wantAnswer(t, what, a, y, f, after, tape, e)
	wantSame(t, what, s, x, wasS, wasX)
}

func wantNext(t *testing.T, what string, s api.State, sent api.Sent, ok bool) {
	t.Helper()
	was := copyOf(s)
	if x, is := runner.Next(s); x != sent || is != ok {
		t.Fatalf("%s: the next message is %v, %v; want %v, %v", what, x, is, sent, ok)
	}
	wantSame(t, what, s, api.Tape{}, was, api.Tape{})
}

func wantAnswer(t *testing.T, what string, a api.State, y api.Tape, f api.Errno, after api.State, tape api.Tape, e api.Errno) {
	t.Helper()
	if f != e {
		t.Fatalf("%s: error %d; want %d", what, f, e)
	}
	if !isSame(a, after) {
		t.Fatalf("%s: it answers\n%s\nwant\n%s", what, unlike(a, after), unlike(after, a))
	}
	if !isSameTape(y, tape) {
		t.Fatalf("%s: the tape is %v; want %v", what, y, tape)
	}
}

func wantSame(t *testing.T, what string, s api.State, x api.Tape, wasS api.State, wasX api.Tape) {
	t.Helper()
	if !isSame(s, wasS) || !isSameTape(x, wasX) {
		t.Fatalf("%s: an argument was changed", what)
	}
}

func copyOf(s api.State) api.State {
	c := s
	c.Heap.Objs = nil
	for _, o := range s.Heap.Objs {
		o.Slots = append([]int(nil), o.Slots...)
		c.Heap.Objs = append(c.Heap.Objs, o)
	}
	return c
}

func copyOfTape(x api.Tape) api.Tape {
	return api.Tape{Log: slices.Clone(x.Log), Rest: slices.Clone(x.Rest)}
}

func isSameTape(a, b api.Tape) bool {
	return slices.Equal(a.Log, b.Log) && slices.Equal(a.Rest, b.Rest)
}

func isPair(a, b api.Obj) bool {
	return a.Class == b.Class && a.Kind == b.Kind && a.Text == b.Text && a.Bits == b.Bits && a.Hash == b.Hash && slices.Equal(a.Slots, b.Slots)
}

// isSame holds two states against one another, numbers and all.
func isSame(a, b api.State) bool {
	return slices.EqualFunc(a.Heap.Objs, b.Heap.Objs, isPair) && numbers(a) == numbers(b)
}

// numbers are those of a state.
func numbers(s api.State) [7]int {
	return [7]int{s.Proc, s.Ready, int(s.Halt), s.Steps, s.Used, s.Heap.Cap, s.Heap.Last}
}

// unlike tells a's numbers, and those of its objects that b has not.
func unlike(a, b api.State) string {
	var l []string
	for i, o := range a.Heap.Objs {
		if i >= len(b.Heap.Objs) || !isPair(o, b.Heap.Objs[i]) {
			l = append(l, fmt.Sprintf("  @%d %+v", i, o))
		}
	}
	return fmt.Sprintf("  Proc, Ready, Halt, Steps, Used, Cap, Last %v, %d objects\n%s", numbers(a), len(a.Heap.Objs), strings.Join(l, "\n"))
}

// spread is a row of bits all over, the same in each run.
type spread uint64

func (s *spread) next() int {
	*s += 0x9e3779b97f4a7c15
	z := uint64(*s)
	z = (z ^ z>>30) * 0xbf58476d1ce4e5b9
	z = (z ^ z>>27) * 0x94d049bb133111eb
	return int(z ^ z>>31)
}

func (s *spread) below(n int) int { return int(uint64(s.next()) % uint64(n)) }

func (s *spread) of(l ...int) int { return l[s.below(len(l))] }
