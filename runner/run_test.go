package runner_test

import (
	"anamnesis/api"
	"fmt"
	"testing"
)

func TestP18_1_Example(t *testing.T) {
	w := circle(t)
	w.x = api.Tape{Log: []int{5}, Rest: []int{7}}
	for _, n := range []int{0, 1, 14, 15, 16, mostOfSteps - 1} {
		w.s.Steps = n
		wantRun(t, fmt.Sprint("at step ", n), w.s, w.x, 0, w.s, w.x, 0)
	}
	w.s.Halt = errIdle
	wantRun(t, "standing still", w.s, w.x, 0, w.s, w.x, 0)
	wantRun(t, "nobody runs", idle(), api.Tape{}, 0, idle(), api.Tape{}, 0)
}

// TestP18_1_ByHand: three steps of the circle, and one that is a tick.
func TestP18_1_ByHand(t *testing.T) {
	w := circle(t)
	w.x.Rest = []int{4, 6}
	c := w.slots(w.s.Proc)[1]
	pushed := copyOf(w.s)
	pushed.Steps = 1
	l := pushed.Heap.Objs[c/2].Slots
	l[1], l[2], l[6] = 3, 3, 7
	wantRun(t, "the first step", w.s, w.x, 1, pushed, w.x, 0)

	entered := copyOf(pushed)
	entered.Steps, entered.Heap.Last = 2, (77*69069+12345)%1073741824
	l = entered.Heap.Objs[c/2].Slots
	l[1], l[2], l[6] = 5, 1, 0
	d := 2 * len(entered.Heap.Objs)
	entered.Heap.Objs = append(entered.Heap.Objs, api.Obj{Class: 12, Hash: entered.Heap.Last, Slots: append([]int{c, 1, 1, w.slots(dict)[1], 7, d}, make([]int, 16)...)})
	entered.Heap.Objs[w.s.Proc/2].Slots[1] = d
	wantRun(t, "two steps", w.s, w.x, 2, entered, w.x, 0)

	w.s.Steps = 15
	pushed.Steps, pushed.Used = 17, 1
	wantRun(t, "a tick, and a step", w.s, w.x, 2, pushed, api.Tape{Log: []int{4}, Rest: []int{6}}, 0)
}

// TestP18_1_ByDo: as many steps as one may do at once, and fewer.
func TestP18_1_ByDo(t *testing.T) {
	for what, w := range map[string]*world{"circle": circle(t), "forever": forever(t)} {
		w.x = api.Tape{Log: []int{1, -2}, Rest: []int{7, 8, -9}}
		s, x := w.s, w.x
		for n := range 60 {
			wantRun(t, what, w.s, w.x, n, s, x, 0)
			s, x, _ = byDo(s, x, 1)
		}
		for _, n := range []int{100, 1000, 2000} {
			s, x, e := byDo(w.s, w.x, n)
			wantRun(t, what, w.s, w.x, n, s, x, e)
		}
	}
	// 10000 steps have 625 ticks, of which two draw what was drawn.
	w := forever(t)
	w.x = api.Tape{Log: []int{1, -2}, Rest: []int{3}}
	s, x, _ := byDo(w.s, w.x, mostAtOnce)
	if s.Steps != mostAtOnce || s.Halt != 0 || s.Used != 625 || len(x.Log) != 625 || len(x.Rest) != 0 {
		t.Errorf("behind 10000 steps: %v, %d inputs", numbers(s), len(x.Log))
	}
	wantRun(t, "10000 steps", w.s, w.x, mostAtOnce, s, x, 0)
}

// TestP18_1_WhatFailsIsNoError: then it stands still, and its steps count.
func TestP18_1_WhatFailsIsNoError(t *testing.T) {
	w := circle(t)
	s, x, _ := byDo(w.s, w.x, mostAtOnce)
	if s.Halt != errFull {
		t.Fatalf("the circle stands still by %d", s.Halt)
	}
	wantRun(t, "a full heap", w.s, w.x, mostAtOnce, s, x, 0)
	after := idle()
	after.Halt, after.Steps = errIdle, 20
	wantRun(t, "nobody runs", idle(), api.Tape{}, 20, after, api.Tape{}, 0)
	// What fails may be the tick.
	w = forever(t)
	w.s.Steps, w.s.Used, w.x.Log = 15, 1000, make([]int, 1000)
	stands := copyOf(w.s)
	stands.Halt, stands.Steps = errTape, 18
	wantRun(t, "a full tape", w.s, w.x, 3, stands, w.x, 0)
}

// noNumbers are those of steps that can't be done at once.
func noNumbers() []int {
	return []int{-1, -2, mostAtOnce + 1, -mostAtOnce, 1 << 20, 1 << 32, 1<<32 + 1, signed, signed + 1, highest, mostOfSteps}
}

func TestP18_1_ErrArg(t *testing.T) {
	w := circle(t)
	for _, n := range noNumbers() {
		wantRun(t, "a state that may be", w.s, w.x, n, api.State{}, api.Tape{}, errArg)
		// It is named ahead of the others.
		wantRun(t, "no state", api.State{}, w.x, n, api.State{}, api.Tape{}, errArg)
		wantRun(t, "no tape", w.s, api.Tape{Log: []int{1 << 30}}, n, api.State{}, api.Tape{}, errArg)
	}
}

// turned is the circle's state, but for what do makes of it.
func turned(t *testing.T, do func(s *api.State)) api.State {
	s := circle(t).s
	do(&s)
	return s
}

// noStates are states of which each may not be, or has done all steps.
func noStates(t *testing.T) map[string]api.State {
	return map[string]api.State{
		"the zero one":   {},
		"11 objects":     {Heap: api.Heap{Cap: 12, Objs: make([]api.Obj, 11)}},
		"no room":        turned(t, func(s *api.State) { s.Heap.Cap = 0 }),
		"too much room":  turned(t, func(s *api.State) { s.Heap.Cap = 257 }),
		"slot of none":   turned(t, func(s *api.State) { s.Heap.Objs[15].Slots[0] = 400 }),
		"another kind":   turned(t, func(s *api.State) { s.Heap.Objs[15].Kind = 1 }),
		"Proc of none":   turned(t, func(s *api.State) { s.Proc = 400 }),
		"Proc no ref":    turned(t, func(s *api.State) { s.Proc = 1 }),
		"Ready below 0":  turned(t, func(s *api.State) { s.Ready = -2 }),
		"Halt below 0":   turned(t, func(s *api.State) { s.Halt = -1 }),
		"Halt too high":  turned(t, func(s *api.State) { s.Halt = 256 }),
		"Steps below 0":  turned(t, func(s *api.State) { s.Steps = -1 }),
		"Steps too high": turned(t, func(s *api.State) { s.Steps = mostOfSteps + 1 }),
		"Used below 0":   turned(t, func(s *api.State) { s.Used = -1 }),
		"Used too high":  turned(t, func(s *api.State) { s.Used = 1001 }),
	}
}

func noTapes() map[string]api.Tape {
	return map[string]api.Tape{
		"too many of Log":  {Log: make([]int, 1001)},
		"too many of Rest": {Rest: make([]int, 1001)},
		"too many of both": {Log: make([]int, 500), Rest: make([]int, 501)},
		"too great":        {Log: []int{1 << 30}},
		"too little":       {Rest: []int{5, -1<<30 - 1}},
		"the highest":      {Rest: []int{highest}},
	}
}

// wrongs tells do of each state and tape of which one may not be, and the error; an error of the state is named first.
func wrongs(t *testing.T, do func(what string, s api.State, x api.Tape, e api.Errno)) {
	tapes := noTapes()
	tapes["none"], tapes["one that may be"] = api.Tape{}, api.Tape{Log: []int{5}, Rest: []int{7}}
	states := noStates(t)
	states["all steps done"] = turned(t, func(s *api.State) { s.Steps = mostOfSteps })
	states["all steps done, standing still"] = turned(t, func(s *api.State) { s.Steps, s.Halt = mostOfSteps, errIdle })
	for what, s := range states {
		for name, x := range tapes {
			do(what+", "+name, s, x, errState)
		}
	}
	w := circle(t)
	for _, s := range []api.State{w.s, idle(), turned(t, func(s *api.State) { s.Halt = errIdle })} {
		for name, x := range noTapes() {
			do(name, s, x, errTape)
		}
		for _, n := range []int{0, 1, 999} {
			s.Used = n + 1
			do(fmt.Sprint("Used above ", n), s, api.Tape{Log: make([]int, n), Rest: []int{7}}, errTape)
		}
	}
}

// TestP18_1_Errors: of no step they are those of one.
func TestP18_1_Errors(t *testing.T) {
	wrongs(t, func(what string, s api.State, x api.Tape, e api.Errno) {
		for _, n := range []int{0, 1, 2, 100, mostAtOnce} {
			wantRun(t, what, s, x, n, api.State{}, api.Tape{}, e)
		}
	})
}

// TestP18_1_LastSteps: an error that comes behind some steps leaves nothing of them.
func TestP18_1_LastSteps(t *testing.T) {
	w := forever(t)
	for left := range 40 {
		w.s.Steps = mostOfSteps - left
		for n := range 45 {
			what := fmt.Sprint(left, " steps are left")
			if n > left || left == 0 {
				wantRun(t, what, w.s, w.x, n, api.State{}, api.Tape{}, errState)
				continue
			}
			s, x, _ := byDo(w.s, w.x, n)
			wantRun(t, what, w.s, w.x, n, s, x, 0)
		}
	}
	w.s.Halt = errIdle
	wantRun(t, "39 steps are left, standing still", w.s, w.x, 40, api.State{}, api.Tape{}, errState)
}
