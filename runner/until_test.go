package runner_test

import (
	"anamnesis/api"
	"anamnesis/runner"
	"fmt"
	"testing"
)

// TestP18_3_Circle: from each step of the circle on, to each of its selectors.
func TestP18_3_Circle(t *testing.T) {
	w := circle(t)
	w.x.Rest = []int{3, 4}
	for from := range 20 {
		for _, sel := range []int{51, 53, 7, 0, box, 99} {
			for _, n := range []int{0, 1, 2, 6, 7, 8, 9, 17, 25} {
				k := 0
				for k < n {
					k++
					if sent, ok := sentAt(from + k); ok && sent.Sel == sel {
						break
					}
				}
				s, x, _ := byDo(w.s, w.x, k)
				wantUntil(t, fmt.Sprint("from step ", from), w.s, w.x, sel, n, s, x, k, 0)
			}
		}
		w.s, w.x, _ = byDo(w.s, w.x, 1)
	}
}

// TestP18_3_Again: one that begins ahead of a step that sends it goes on to the next one.
func TestP18_3_Again(t *testing.T) {
	w := circle(t)
	s, x := w.s, w.x
	for _, steps := range []int{1, 9, 17, 25, 33} {
		a, y, k, e := runner.Until(s, x, 51, mostAtOnce)
		if sent, ok := runner.Next(a); e != 0 || k != a.Steps-s.Steps || a.Steps != steps || !ok || sent.Sel != 51 {
			t.Fatalf("behind %d steps: %d, error %d, next %v, %v", a.Steps, k, e, sent, ok)
		}
		s, x = a, y
	}
}

// TestP18_3_NoMessage: what is no message is not one of selector 0, to which nothing is sent.
func TestP18_3_NoMessage(t *testing.T) {
	w := circle(t)
	s, x, _ := byDo(w.s, w.x, 60)
	wantUntil(t, "selector 0", w.s, w.x, 0, 60, s, x, 60, 0)
	for _, sel := range []int{-1, signed, highest, 1 << 21} {
		wantUntil(t, "no value", w.s, w.x, sel, 60, s, x, 60, 0)
	}
	// Nor is one of the selector 0 where there is one.
	w = newWorld(t)
	w.knows(0, w.method(14, 1, 1, "self; return"))
	w.runs(w.method(0, 0, 0, "self; self; send 0 1; pop; jump 0", 0), box)
	s, x, _ = byDo(w.s, w.x, 2)
	wantUntil(t, "object 0 is sent", w.s, w.x, 0, 60, s, x, 2, 0)
}

// TestP18_3_Tick: ahead of a tick it does not end, but behind it.
func TestP18_3_Tick(t *testing.T) {
	w := forever(t)
	w.s.Steps = 13
	w.x.Rest = []int{2}
	s, x, _ := byDo(w.s, w.x, 3)
	if s.Steps != 16 || s.Used != 1 {
		t.Fatal(numbers(s))
	}
	wantUntil(t, "a tick between", w.s, w.x, 57, 20, s, x, 3, 0)
}

// TestP18_3_Primitives: a primitive that sends again is no message that is sent next.
func TestP18_3_Primitives(t *testing.T) {
	w := newWorld(t)
	w.knows(57, w.method(52, 1, 1, "self; return"))
	w.knows(59, w.method(14, 0, 0, "self; return"))
	w.runs(w.method(0, 0, 0, "self; lit 0; send 1 1; pop; jump 0", 59, 57), box)
	s, x, _ := byDo(w.s, w.x, 12)
	wantUntil(t, "what is performed", w.s, w.x, 59, 12, s, x, 12, 0)
	s, x, _ = byDo(w.s, w.x, 2)
	wantUntil(t, "perform", w.s, w.x, 57, 12, s, x, 2, 0)
}

// TestP18_3_Halts: what stands still sends nothing, so all steps are done.
func TestP18_3_Halts(t *testing.T) {
	w := circle(t)
	s, x, _ := byDo(w.s, w.x, 3000)
	if s.Halt != errFull {
		t.Fatalf("the circle stands still by %d", s.Halt)
	}
	wantUntil(t, "a selector that is not sent", w.s, w.x, 99, 3000, s, x, 3000, 0)
	y, z, _ := byDo(s, x, 100)
	for _, sel := range selectors() {
		wantUntil(t, "it stands still", s, x, sel, 100, y, z, 100, 0)
	}
	sent := sends(t)
	sent.s.Halt = errIdle
	y, z, _ = byDo(sent.s, sent.x, 100)
	wantUntil(t, "a message, standing still", sent.s, sent.x, 57, 100, y, z, 100, 0)
}

func TestP18_3_ErrArg(t *testing.T) {
	w := circle(t)
	for _, n := range noNumbers() {
		wantUntil(t, "a state that may be", w.s, w.x, 51, n, api.State{}, api.Tape{}, 0, errArg)
		wantUntil(t, "no state", api.State{}, w.x, 51, n, api.State{}, api.Tape{}, 0, errArg)
		wantUntil(t, "no tape", w.s, api.Tape{Log: []int{1 << 30}}, 51, n, api.State{}, api.Tape{}, 0, errArg)
	}
}

func TestP18_3_Errors(t *testing.T) {
	wrongs(t, func(what string, s api.State, x api.Tape, e api.Errno) {
		for _, n := range []int{0, 1, 2, 100, mostAtOnce} {
			wantUntil(t, what, s, x, 51, n, api.State{}, api.Tape{}, 0, e)
		}
	})
}

// TestP18_3_LastSteps: one may end ahead of a step that there is not; else that is an error, and no step was done.
func TestP18_3_LastSteps(t *testing.T) {
	w := forever(t)
	for left := range 40 {
		w.s.Steps = mostOfSteps - left
		for _, n := range []int{0, 1, 2, 3, 10, 38, 39, 40, 41} {
			for _, sel := range []int{57, 99} {
				s, x, k, e := untilByWords(w.s, w.x, sel, n)
				if sel == 99 && (n > left || left == 0) != (e == errState) {
					t.Fatalf("%d steps, and %d are left: error %d", n, left, e)
				}
				wantUntil(t, fmt.Sprint(left, " steps are left"), w.s, w.x, sel, n, s, x, k, e)
			}
		}
	}
	w.s.Steps = mostOfSteps - 2
	s, x, _ := byDo(w.s, w.x, 2)
	if s.Steps != mostOfSteps || s.Halt != 0 {
		t.Fatal(numbers(s))
	}
	// The last one is a tick, and ahead of that nothing is sent.
	w = forever(t)
	w.s.Steps = mostOfSteps - 3
	s, x, _ = byDo(w.s, w.x, 3)
	wantUntil(t, "all steps done", w.s, w.x, 57, mostAtOnce, s, x, 3, 0)
}
