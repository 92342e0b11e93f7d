package step_test

import (
	"anamnesis/api"
	"anamnesis/code"
	"anamnesis/step"
	"fmt"
	"slices"
	"strings"
	"testing"
)

// The bounds and errors stand here as numbers of their own, so that a test doesn't follow the code into a mistake.
const (
	greatest    = 2147483647  // the value of the greatest SmallInteger
	least       = -2147483647 // of the least one
	mostOfSteps = 1099511627776
	signed      = -1 << 63
	highest     = 1<<63 - 1

	errFull  = 30
	errRef   = 31
	errSlot  = 32
	errKind  = 33
	errClass = 90
	errNone  = 91
	errFrame = 120
	errStack = 121
	errProc  = 140
	errList  = 141
	errState = 150
	errTape  = 160
	errIdle  = 170
	errBool  = 171
	errHome  = 172
	errStop  = 173
)

// What the objects of plain are.
const (
	root  = 24 // the class of nearly all, without a super
	dict  = 26 // its dictionary
	above = 28 // a class under it, that understands nothing by itself
	box   = 30 // two slots: 7, 9
	text  = 32 // the bytes "ab"
	sem   = 34 // a semaphore, count 0, nobody waits
	below = 36 // an instance of the class above
)

// plain are the first 12 objects, and those above.
func plain() api.State {
	s := api.State{Steps: 100, Heap: api.Heap{Cap: 256, Last: 77, Objs: make([]api.Obj, 12)}}
	for i := range s.Heap.Objs {
		s.Heap.Objs[i].Class = root
		if i >= 3 && i <= 10 {
			s.Heap.Objs[i].Slots = []int{root, 0, 1}
		}
	}
	s.Heap.Objs = append(s.Heap.Objs,
		api.Obj{Class: root, Slots: []int{0, dict, 5}},
		api.Obj{Class: root},
		api.Obj{Class: root, Slots: []int{root, 0, 5}},
		api.Obj{Class: root, Slots: []int{7, 9}, Hash: 3},
		api.Obj{Class: 20, Kind: 1, Text: "ab", Hash: 4},
		api.Obj{Class: 16, Slots: []int{1, 0}},
		api.Obj{Class: above, Slots: []int{1, 1}},
	)
	return s
}

// world is a state and a tape that a test lays out.
type world struct {
	*testing.T
	s api.State
	x api.Tape
}

func newWorld(t *testing.T) *world { return &world{T: t, s: plain()} }

// add lays an object behind; its value.
func (w *world) add(o api.Obj) int {
	w.s.Heap.Objs = append(w.s.Heap.Objs, o)
	return 2 * (len(w.s.Heap.Objs) - 1)
}

func (w *world) slots(v int) []int { return w.s.Heap.Objs[v/2].Slots }

// list lays an array behind; its value.
func (w *world) list(l ...int) int { return w.add(api.Obj{Class: 18, Slots: l}) }

// method lays a method behind, whose instructions are lines with "; " between; its value.
func (w *world) method(prim, args, temps int, lines string, lits ...int) int {
	w.Helper()
	l, e := code.Parse(strings.ReplaceAll(lines, "; ", "\n") + "\n")
	packed, f := code.Pack(l)
	if e != 0 || f != 0 {
		w.Fatalf("the lines %q: errors %d, %d", lines, e, f)
	}
	s := w.add(api.Obj{Class: 20, Kind: 1, Text: packed})
	return w.add(api.Obj{Class: root, Slots: []int{2*prim + 1, 2*args + 1, 2*temps + 1, s, w.list(lits...)}})
}

// knows makes the root class understand a selector by what is told.
func (w *world) knows(sel, m int) { w.knowsAt(dict, sel, m) }

func (w *world) knowsAt(d, sel, m int) {
	w.s.Heap.Objs[d/2].Slots = append(w.slots(d), sel, m)
}

// context lays a context behind, that is its own home, and has the area; its value. (What counts of the area are the temporaries, and what stands behind them.)
func (w *world) context(m, receiver int, area ...int) int {
	temps := w.slots(m)[2] / 2
	l := append([]int{0, 1, 2*max(temps, len(area)) + 1, m, receiver, 0}, area...)
	c := w.add(api.Obj{Class: 12, Slots: append(l, make([]int, 22-len(l))...)})
	w.slots(c)[5] = c
	return c
}

// process lays a process behind; its value.
func (w *world) process(c, prio int) int {
	return w.add(api.Obj{Class: 14, Slots: []int{0, c, 2*prio + 1, 0}})
}

// runs makes a process of the priority 3 the one that runs, in a new context; the context's value.
func (w *world) runs(m, receiver int, area ...int) int {
	c := w.context(m, receiver, area...)
	w.s.Proc = w.process(c, 3)
	return c
}

// code makes a process run that is at the first one of these lines, of a method of two temporaries; the context's value.
func (w *world) code(lines string, lits []int, area ...int) int {
	w.Helper()
	return w.runs(w.method(0, 0, 2, lines, lits...), box, area...)
}

// waits links processes to a list, in order, and answers the first one.
func (w *world) waits(l ...int) int {
	for i := range len(l) - 1 {
		w.slots(l[i])[0] = l[i+1]
	}
	return l[0]
}

// then is the world behind a step, but for what is told by do; Steps is counted.
func (w *world) then(do func(w *world)) *world {
	y := &world{w.T, copyOf(w.s), copyOfTape(w.x)}
	y.s.Steps++
	if do != nil {
		do(y)
	}
	return y
}

// pushed lays values onto the context c.
func (w *world) pushed(c int, l ...int) {
	s := w.slots(c)
	for _, v := range l {
		s[6+s[2]/2] = v
		s[2] += 2
	}
}

// popped takes so many values off the context c.
func (w *world) popped(c, n int) {
	s := w.slots(c)
	for range n {
		s[2] -= 2
		s[6+s[2]/2] = 0
	}
}

// at puts the context c to the instruction ip.
func (w *world) at(c, ip int) { w.slots(c)[1] = 2*ip + 1 }

// fresh lays a new object behind, as layer 3 does: with the next hash.
func (w *world) fresh(class int, slots ...int) int {
	w.s.Heap.Last = (w.s.Heap.Last*69069 + 12345) % 1073741824
	return w.add(api.Obj{Class: class, Slots: slots, Hash: w.s.Heap.Last})
}

// entered lays a new context behind, and goes to it.
func (w *world) entered(sender, m, receiver, home int, args ...int) int {
	c := w.freshContext(sender, m, receiver, home, args...)
	w.slots(w.s.Proc)[1] = c
	return c
}

func (w *world) freshContext(sender, m, receiver, home int, args ...int) int {
	l := append([]int{sender, 1, w.slots(m)[2], m, receiver, home}, args...)
	c := w.fresh(12, append(l, make([]int, 22-len(l))...)...)
	if home == 0 {
		w.slots(c)[5] = c
	}
	return c
}

// wantThen holds a step of the world against what do makes of it.
func (w *world) wantThen(what string, do func(w *world)) *world {
	w.Helper()
	y := w.then(do)
	wantDo(w.T, what, w.s, w.x, y.s, y.x, 0)
	return y
}

// wantHalt holds a step of the world against one that fails.
func (w *world) wantHalt(what string, halt api.Errno) {
	w.Helper()
	w.wantThen(what, func(w *world) { w.s.Halt = halt })
}

// wantDo holds Do against what it is to answer, and whether the arguments stay as they are.
func wantDo(t *testing.T, what string, s api.State, x api.Tape, after api.State, tape api.Tape, e api.Errno) {
	t.Helper()
	wasS, wasX := copyOf(s), copyOfTape(x)
	a, y, f := step.Do(s, x)
	if f != e {
		t.Fatalf("%s: error %d; want %d", what, f, e)
	}
	if !isSame(a, after) {
		t.Fatalf("%s: behind the step\n%s\nwant\n%s\nbefore\n%s", what, unlike(a, after), unlike(after, a), unlike(wasS, after))
	}
	if !isSameTape(y, tape) {
		t.Fatalf("%s: the tape is %v; want %v", what, y, tape)
	}
	if !isSame(s, wasS) || !isSameTape(x, wasX) {
		t.Fatalf("%s: an argument was changed", what)
	}
}

func wantContext(t *testing.T, what string, s api.State, c int, e api.Errno) {
	t.Helper()
	was := copyOf(s)
	if d, f := step.Context(s); d != c || f != e {
		t.Fatalf("%s: the context is %d, error %d; want %d, %d", what, d, f, c, e)
	}
	if !isSame(s, was) {
		t.Fatalf("%s: the state was changed", what)
	}
}

func copyOf(s api.State) api.State {
	c := s
	c.Heap.Objs = nil
	for _, o := range s.Heap.Objs {
		o.Slots = append([]int(nil), o.Slots...)
		c.Heap.Objs = append(c.Heap.Objs, o)
	}
	return c
}

func copyOfTape(x api.Tape) api.Tape {
	return api.Tape{Log: slices.Clone(x.Log), Rest: slices.Clone(x.Rest)}
}

func isSameTape(a, b api.Tape) bool {
	return slices.Equal(a.Log, b.Log) && slices.Equal(a.Rest, b.Rest)
}

func isPair(a, b api.Obj) bool {
	return a.Class == b.Class && a.Kind == b.Kind && a.Text == b.Text && a.Bits == b.Bits && a.Hash == b.Hash && slices.Equal(a.Slots, b.Slots)
}

// isSame holds two states against one another, numbers and all.
func isSame(a, b api.State) bool {
	return slices.EqualFunc(a.Heap.Objs, b.Heap.Objs, isPair) && numbers(a) == numbers(b)
}

// numbers are those of a state.
func numbers(s api.State) [7]int {
	return [7]int{s.Proc, s.Ready, int(s.Halt), s.Steps, s.Used, s.Heap.Cap, s.Heap.Last}
}

// unlike tells a's numbers, and those of its objects that b has not.
func unlike(a, b api.State) string {
	var l []string
	for i, o := range a.Heap.Objs {
		if i >= len(b.Heap.Objs) || !isPair(o, b.Heap.Objs[i]) {
			l = append(l, fmt.Sprintf("  @%d %+v", i, o))
		}
	}
	return fmt.Sprintf("  Proc, Ready, Halt, Steps, Used, Cap, Last %v, %d objects\n%s", numbers(a), len(a.Heap.Objs), strings.Join(l, "\n"))
}

// spread is a row of bits all over, the same in each run.
type spread uint64

func (s *spread) next() int {
	*s += 0x9e3779b97f4a7c15
	z := uint64(*s)
	z = (z ^ z>>30) * 0xbf58476d1ce4e5b9
	z = (z ^ z>>27) * 0x94d049bb133111eb
	return int(z ^ z>>31)
}

func (s *spread) below(n int) int { return int(uint64(s.next()) % uint64(n)) }

func (s *spread) of(l ...int) int { return l[s.below(len(l))] }

// run is what is behind so many steps.
func (w *world) run(n int) (api.State, api.Tape) {
	w.Helper()
	s, x := w.s, w.x
	for range n {
		var e api.Errno
		if s, x, e = step.Do(s, x); e != 0 {
			w.Fatalf("error %d", e)
		}
	}
	return s, x
}
