package step_test

import (
	"anamnesis/api"
	"anamnesis/step"
	"fmt"
	"testing"
)

// idle is a state of 12 objects, all else 0.
func idle() api.State { return api.State{Heap: api.Heap{Cap: 12, Objs: make([]api.Obj, 12)}} }

func TestP17_1_Example(t *testing.T) {
	after := idle()
	after.Halt, after.Steps = errIdle, 1
	wantDo(t, "the example", idle(), api.Tape{}, after, api.Tape{}, 0)
}

// noStates are states of which each may not be, or has done all steps.
func noStates() map[string]api.State {
	turned := func(do func(s *api.State)) api.State {
		s := plain()
		do(&s)
		return s
	}
	return map[string]api.State{
		"the zero one":      {},
		"11 objects":        {Heap: api.Heap{Cap: 12, Objs: make([]api.Obj, 11)}},
		"no room":           turned(func(s *api.State) { s.Heap.Cap = 0 }),
		"too much room":     turned(func(s *api.State) { s.Heap.Cap = 257 }),
		"slot of none":      turned(func(s *api.State) { s.Heap.Objs[15].Slots[0] = 38 }),
		"another kind":      turned(func(s *api.State) { s.Heap.Objs[15].Kind = 1 }),
		"Proc of none":      turned(func(s *api.State) { s.Proc = 38 }),
		"Proc no ref":       turned(func(s *api.State) { s.Proc = 1 }),
		"Ready of none":     turned(func(s *api.State) { s.Ready = 38 }),
		"Ready below 0":     turned(func(s *api.State) { s.Ready = -2 }),
		"Halt below 0":      turned(func(s *api.State) { s.Halt = -1 }),
		"Halt too high":     turned(func(s *api.State) { s.Halt = 256 }),
		"Steps below 0":     turned(func(s *api.State) { s.Steps = -1 }),
		"Steps too high":    turned(func(s *api.State) { s.Steps = mostOfSteps + 1 }),
		"Steps, the lowest": turned(func(s *api.State) { s.Steps = signed }),
		"Used below 0":      turned(func(s *api.State) { s.Used = -1 }),
		"Used too high":     turned(func(s *api.State) { s.Used = 1001 }),
	}
}

func noTapes() map[string]api.Tape {
	return map[string]api.Tape{
		"too many of Log":  {Log: make([]int, 1001)},
		"too many of Rest": {Rest: make([]int, 1001)},
		"too many of both": {Log: make([]int, 500), Rest: make([]int, 501)},
		"too great":        {Log: []int{1 << 30}},
		"too little":       {Rest: []int{5, -1<<30 - 1}},
		"the highest":      {Rest: []int{highest}},
	}
}

func TestP17_1_ErrState(t *testing.T) {
	tapes := noTapes()
	tapes["none"], tapes["one that may be"] = api.Tape{}, api.Tape{Log: []int{5}, Rest: []int{7}}
	for what, s := range noStates() {
		for name, x := range tapes {
			wantDo(t, what+", "+name, s, x, api.State{}, api.Tape{}, errState)
		}
		wantContext(t, what, s, 0, errState)
	}
}

// TestP17_1_LastStep: behind 2^40 steps there is none, and the last one is a tick.
func TestP17_1_LastStep(t *testing.T) {
	w := newWorld(t)
	w.code("self; return", nil)
	w.s.Steps = mostOfSteps - 1
	y := w.wantThen("the last step", func(w *world) { w.s.Used, w.x.Log = 1, []int{0} })
	wantDo(t, "behind the last step", y.s, y.x, api.State{}, api.Tape{}, errState)
	y.s.Halt = errStop
	wantDo(t, "behind the last step, standing still", y.s, y.x, api.State{}, api.Tape{}, errState)
	w.s.Steps = mostOfSteps
	c, _ := step.Context(newCode(t).s)
	wantContext(t, "behind the last step", w.s, c, 0)
}

// newCode is a world that runs a little.
func newCode(t *testing.T) *world {
	w := newWorld(t)
	w.code("self; return", nil)
	return w
}

func TestP17_1_ErrTape(t *testing.T) {
	w := newCode(t)
	halted := copyOf(w.s)
	halted.Halt = 5
	for what, x := range noTapes() {
		wantDo(t, what, w.s, x, api.State{}, api.Tape{}, errTape)
		wantDo(t, what+", standing still", halted, x, api.State{}, api.Tape{}, errTape)
	}
	for _, n := range []int{0, 1, 5, 999} {
		w.s.Used, w.x = n+1, api.Tape{Log: make([]int, n), Rest: []int{7}}
		wantDo(t, fmt.Sprint("Used above ", n), w.s, w.x, api.State{}, api.Tape{}, errTape)
		w.s.Used = n
		c := w.slots(w.s.Proc)[1]
		w.wantThen(fmt.Sprint("Used as many as ", n), func(w *world) { w.pushed(c, box); w.at(c, 1) })
	}
}

// TestP17_1_StandsStill: whatever else there is to be done, who stands still only counts.
func TestP17_1_StandsStill(t *testing.T) {
	for halt := 1; halt < 256; halt++ {
		w := newCode(t)
		q := w.process(w.slots(w.s.Proc)[1], 1)
		w.s.Halt, w.x = api.Errno(halt), api.Tape{Log: []int{3}, Rest: []int{5}}
		for _, n := range []int{0, 7, 15, 31, 47, mostOfSteps - 1} {
			w.s.Steps = n
			w.wantThen(fmt.Sprint("halt ", halt), nil)
		}
		w.s.Ready, w.s.Steps = q, 15
		w.wantThen(fmt.Sprint("halt, with one that is ready, ", halt), nil)
		w.s.Proc = 0
		w.wantThen(fmt.Sprint("halt, of nobody, ", halt), nil)
		w.s.Steps, w.s.Ready = 3, box
		w.wantThen(fmt.Sprint("halt, of no list, ", halt), nil)
	}
}

// two is a world in which p runs, and q is ready, with the priorities told.
func two(t *testing.T, prio, other int) (w *world, p, q int) {
	w = newWorld(t)
	c := w.context(w.method(0, 0, 0, "self; return"), box)
	p, q = w.process(c, prio), w.process(c, other)
	w.s.Proc, w.s.Ready = p, q
	return w, p, q
}

// TestP17_1_TickWhen: each 16th step draws, and does nothing else; no other one draws.
func TestP17_1_TickWhen(t *testing.T) {
	for n := range 100 {
		w := newCode(t)
		c := w.slots(w.s.Proc)[1]
		w.s.Steps, w.x = n, api.Tape{Rest: []int{5, 6}}
		w.wantThen(fmt.Sprint("step ", n), func(w *world) {
			if n%16 == 15 {
				w.s.Used, w.x = 1, api.Tape{Log: []int{5}, Rest: []int{6}}
				return
			}
			w.pushed(c, box)
			w.at(c, 1)
		})
	}
}

func TestP17_1_TickOddAndEven(t *testing.T) {
	for _, n := range []int{0, 1, 2, 3, 8, 15, -1, -2, -3, -4, 1<<30 - 1, 1<<30 - 2, -1 << 30, -1<<30 + 1} {
		w, p, q := two(t, 3, 3)
		w.s.Steps, w.x = 31, api.Tape{Rest: []int{n}}
		w.wantThen(fmt.Sprint("an input ", n), func(w *world) {
			w.s.Used, w.x = 1, api.Tape{Log: []int{n}}
			if n%2 != 0 {
				w.s.Proc, w.s.Ready = q, p
			}
		})
	}
}

// TestP17_1_TickReplays: what was drawn is drawn again, and behind all inputs there is 0.
func TestP17_1_TickReplays(t *testing.T) {
	w, p, q := two(t, 3, 3)
	w.s.Steps, w.s.Used, w.x = 15, 1, api.Tape{Log: []int{2, 3, 4}, Rest: []int{6}}
	w.wantThen("from Log", func(w *world) { w.s.Used, w.s.Proc, w.s.Ready = 2, q, p })
	w.s.Used = 2
	w.wantThen("from Log, even", func(w *world) { w.s.Used = 3 })
	w.s.Used = 3
	w.wantThen("from Rest", func(w *world) { w.s.Used, w.x = 4, api.Tape{Log: []int{2, 3, 4, 6}} })
	w.x.Rest = nil
	w.wantThen("behind all", func(w *world) { w.s.Used, w.x.Log = 4, []int{2, 3, 4, 0} })
	w.s.Used, w.x = 1000, api.Tape{Log: make([]int, 1000)}
	w.wantHalt("a full Log", errTape)
	w.s.Used = 999
	w.wantThen("the last one of a full Log", func(w *world) { w.s.Used = 1000 })
}

// TestP17_1_TickByPriority: who was inserted stands behind those of no lesser priority, so it may be taken at once.
func TestP17_1_TickByPriority(t *testing.T) {
	for prio := range 8 {
		for other := range 8 {
			w, p, q := two(t, prio, other)
			w.s.Steps, w.x = 15, api.Tape{Rest: []int{1}}
			w.wantThen(fmt.Sprint("priorities ", prio, other), func(w *world) {
				w.s.Used, w.x = 1, api.Tape{Log: []int{1}}
				if prio <= other {
					w.s.Proc, w.s.Ready = q, p
				}
			})
		}
	}
	w, p, q := two(t, 3, 5)
	r, o := w.process(0, 3), w.process(0, 2)
	w.waits(q, r, o)
	w.s.Steps, w.x = 15, api.Tape{Rest: []int{1}}
	w.wantThen("between others", func(w *world) {
		w.s.Used, w.x = 1, api.Tape{Log: []int{1}}
		w.s.Proc, w.s.Ready = q, w.waits(r, p, o)
		w.slots(q)[0] = 0
	})
}

// TestP17_1_TickOfOneAlone: where nobody runs, or is ready, it only draws.
func TestP17_1_TickOfOneAlone(t *testing.T) {
	for _, n := range []int{1, 2} {
		w, p, q := two(t, 3, 3)
		w.s.Steps, w.x = 15, api.Tape{Rest: []int{n}}
		drawn := func(w *world) { w.s.Used, w.x = 1, api.Tape{Log: []int{n}} }
		w.s.Proc, w.s.Ready = p, 0
		w.wantThen("nobody is ready", drawn)
		w.s.Proc, w.s.Ready = 0, q
		w.wantThen("nobody runs", drawn)
		w.s.Proc, w.s.Ready = 0, 0
		w.wantThen("nobody", drawn)
		w.s.Proc, w.s.Ready = box, 0
		w.wantThen("no process, and nobody", drawn)
		w.s.Proc, w.s.Ready = 0, box
		w.wantThen("nobody, and no list", drawn)
	}
}

// TestP17_1_TickThatFails: then nothing was drawn.
func TestP17_1_TickThatFails(t *testing.T) {
	w, p, q := two(t, 3, 3)
	w.s.Steps, w.x = 15, api.Tape{Rest: []int{1, 2}}
	w.s.Ready = box
	w.wantHalt("no list", errList)
	w.s.Proc = box
	w.wantHalt("no list, and no process", errList)
	w.s.Ready = q
	w.wantHalt("no process", errProc)
	w.s.Proc, w.s.Ready = p, p
	w.wantHalt("it is ready, too", errProc)
	w.s.Ready, w.slots(p)[0] = q, box
	w.wantHalt("it has a next", errProc)
	w.s.Used, w.x = 1, api.Tape{Log: []int{4, 1}, Rest: []int{2}}
	w.wantHalt("it has a next, and the input is drawn again", errProc)
	w.slots(p)[0], w.slots(q)[0] = 0, q
	w.wantHalt("a ring", errList)
}

func TestP17_1_NobodyRuns(t *testing.T) {
	w, p, q := two(t, 3, 5)
	w.s.Proc = 0
	w.wantThen("one is ready", func(w *world) { w.s.Proc, w.s.Ready = q, 0 })
	r := w.process(0, 1)
	w.waits(q, p, r)
	y := w.wantThen("three are ready", func(w *world) { w.s.Proc, w.s.Ready, w.slots(q)[0] = q, p, 0 })
	y.s.Proc = 0
	y.wantThen("two are ready", func(w *world) { w.s.Proc, w.s.Ready, w.slots(p)[0] = p, r, 0 })
	w.s.Ready = 0
	w.wantHalt("nobody is ready", errIdle)
	w.s.Ready = box
	w.wantHalt("no list", errList)
	w.s.Ready, w.slots(r)[0] = q, box
	w.wantHalt("no list, at its end", errList)
	w.slots(r)[0] = p
	w.wantHalt("a ring", errList)
}

func TestP17_1_Context(t *testing.T) {
	w := newWorld(t)
	c := w.code("self; return", nil)
	p := w.s.Proc
	wantContext(t, "a context", w.s, c, 0)
	w.s.Halt, w.s.Steps, w.s.Ready = 7, 15, box
	wantContext(t, "a context, standing still", w.s, c, 0)
	w.s.Halt, w.s.Steps, w.s.Ready = 0, 100, 0
	for _, v := range []int{0, 2, root, box, sem, text, c} {
		w.s.Proc = v
		wantContext(t, "no process", w.s, 0, errProc)
		if v != 0 {
			w.wantHalt("no process", errProc)
		}
	}
	w.s.Proc = p
	for _, v := range []int{0, 2, root, box, sem, text, p} {
		w.slots(p)[1] = v
		wantContext(t, "no context", w.s, 0, errFrame)
		w.wantHalt("no context", errFrame)
	}
	w.slots(p)[1] = 7
	wantContext(t, "a SmallInteger", w.s, 0, errProc)
	w.wantHalt("a SmallInteger", errProc)
	w.slots(p)[1], w.slots(c)[1] = c, 5
	wantContext(t, "no instruction", w.s, 0, errFrame)
	w.wantHalt("no instruction", errFrame)
}
