package runner_test

import (
	"anamnesis/api"
	"anamnesis/runner"
	"anamnesis/step"
	"fmt"
	"testing"
)

// TestP18_2_Circle: messages go by the instruction, not by what was sent before; and they are what a literal says, and not what is in its place.
func TestP18_2_Circle(t *testing.T) {
	w := circle(t)
	for n := range 200 {
		sent, ok := sentAt(n)
		wantNext(t, fmt.Sprint("the circle, step ", n), w.s, sent, ok)
		w.s, w.x, _ = byDo(w.s, w.x, 1)
	}
}

// TestP18_2_Ops: of all instructions Send and Super alone send.
func TestP18_2_Ops(t *testing.T) {
	for op := range 19 {
		w := newWorld(t)
		m := w.body(0, 0, 2, []api.Instr{{Op: op}, {Op: api.Return}}, 57)
		// A Block's literal is a method, so that it may be done.
		w.slots(w.slots(m)[4])[0] = m
		w.runs(m, box, 0, 0, 9, 2)
		sent, ok := api.Sent{}, op == api.Send || op == api.Super
		if ok {
			sent = api.Sent{Sel: m, Receiver: 2}
		}
		wantNext(t, fmt.Sprint("instruction ", op), w.s, sent, ok)
	}
}

// TestP18_2_Pushed: the receiver lies below the arguments; it and they were pushed, and are no temporaries.
func TestP18_2_Pushed(t *testing.T) {
	for _, word := range []string{"send", "super"} {
		for temps := range 9 {
			for pushed := range 17 - temps {
				for args := range 5 {
					w := newWorld(t)
					area := make([]int, temps+pushed)
					for i := range area {
						area[i] = 101 + 2*i
					}
					c := w.runs(w.method(0, 0, temps, fmt.Sprintf("%s 1 %d; return", word, args), 57, box, 61), 7, area...)
					// What lies beyond does not count.
					for i := 6 + temps + pushed; i < 22; i++ {
						w.slots(c)[i] = 77
					}
					what := fmt.Sprint(word, " of ", args, " arguments, ", pushed, " are pushed behind ", temps)
					if pushed <= args {
						wantNext(t, what, w.s, api.Sent{}, false)
						continue
					}
					wantNext(t, what, w.s, api.Sent{Sel: box, Receiver: area[len(area)-1-args]}, true)
				}
			}
		}
	}
}

// TestP18_2_Literals: each literal's place, and each sort of selector, understood or not.
func TestP18_2_Literals(t *testing.T) {
	lits := []int{22, 57, 1, greatest, -greatest, 0, 2, box, text}
	for len(lits) < 32 {
		lits = append(lits, 2*len(lits)+1)
	}
	for k, sel := range lits {
		for _, word := range []string{"send", "super"} {
			w := newWorld(t)
			w.runs(w.method(0, 0, 1, fmt.Sprintf("jump 1; %s %d 1; return", word, k), lits...), 7, 9, 1, below, 7)
			w.at(1)
			wantNext(t, fmt.Sprint(word, " of literal ", k), w.s, api.Sent{Sel: sel, Receiver: below}, true)
			w.at(2)
			wantNext(t, "a return", w.s, api.Sent{}, false)
		}
	}
}

// at puts the context of the process that runs to the instruction ip.
func (w *world) at(ip int) { w.slots(w.slots(w.s.Proc)[1])[1] = 2*ip + 1 }

// sends is a world whose next step sends 57 to 9.
func sends(t *testing.T) *world {
	w := newWorld(t)
	w.runs(w.method(0, 0, 0, "send 0 0; return", 57), 7, 9)
	return w
}

func wantSends(t *testing.T, what string, s api.State, ok bool) {
	t.Helper()
	sent := api.Sent{}
	if ok {
		sent = api.Sent{Sel: 57, Receiver: 9}
	}
	wantNext(t, what, s, sent, ok)
}

// TestP18_2_Ticks: each 16th step sends nothing.
func TestP18_2_Ticks(t *testing.T) {
	w := sends(t)
	for _, from := range []int{0, 1 << 20, 1 << 39, mostOfSteps - 50} {
		for n := range 51 {
			w.s.Steps = from + n
			wantSends(t, fmt.Sprint("step ", from+n), w.s, (from+n)%16 != 15)
		}
	}
}

// TestP18_2_StandsStill: whatever the number is by which it does.
func TestP18_2_StandsStill(t *testing.T) {
	w := sends(t)
	for halt := range 256 {
		w.s.Halt = api.Errno(halt)
		wantSends(t, fmt.Sprint("halt ", halt), w.s, halt == 0)
	}
}

// TestP18_2_NoContext: where step.Context tells none, nothing is sent.
func TestP18_2_NoContext(t *testing.T) {
	for what, s := range noStates(t) {
		wantNext(t, what, s, api.Sent{}, false)
	}
	w := sends(t)
	p := w.s.Proc
	c := w.slots(p)[1]
	for _, v := range []int{0, 2, root, box, sem, text, c} {
		w.s.Proc, w.slots(p)[1] = v, c
		wantSends(t, "no process", w.s, false)
		// Who is ready is not asked.
		w.s.Ready = p
		wantSends(t, "no process, and one that is ready", w.s, false)
		w.s.Proc, w.s.Ready = p, 0
		if v != c {
			w.slots(p)[1] = v
			wantSends(t, "no context", w.s, false)
		}
	}
	w.slots(p)[1] = c
	wantSends(t, "as it was", w.s, true)
	w.s.Ready, w.s.Used = box, 1000
	wantSends(t, "no list of those that are ready, and many inputs", w.s, true)
	for k, v := range map[int]int{0: 7, 1: 5, 2: 35, 3: box, 5: 7} {
		was := w.slots(c)[k]
		w.slots(c)[k] = v
		wantSends(t, fmt.Sprint("slot ", k, " is wrong"), w.s, false)
		w.slots(c)[k] = was
	}
	// A send of five arguments is none of any method.
	w.s.Heap.Objs[w.slots(w.slots(c)[3])[3]/2].Text = "\x08\x05\x0e\x00"
	wantSends(t, "five arguments", w.s, false)
}

// TestP18_2_ProcOfObjectZero: where object 0 is a process, step.Context tells a context of it, and that is all that is asked.
func TestP18_2_ProcOfObjectZero(t *testing.T) {
	w := sends(t)
	w.s.Heap.Objs[0] = w.s.Heap.Objs[w.s.Proc/2]
	w.s.Proc = 0
	wantSends(t, "object 0 is a process", w.s, true)
}

// TestP18_2_ContextOfObjectZero: what an error comes with, the ref of object 0, is not asked for a message, even where that is a context.
func TestP18_2_ContextOfObjectZero(t *testing.T) {
	w := sends(t)
	c := w.slots(w.s.Proc)[1]
	w.s.Heap.Objs[0] = w.s.Heap.Objs[c/2]
	wantSends(t, "object 0 is a context", w.s, true)
	w.slots(w.s.Proc)[1] = 0
	wantSends(t, "object 0 is the context", w.s, true)
	w.s.Proc = box
	wantSends(t, "no process, and object 0 is a context", w.s, false)
	w.s.Proc = 0
	wantSends(t, "nobody, and object 0 is a context", w.s, false)
	w.s.Proc = 2 * (len(w.s.Heap.Objs) - 1)
	wantSends(t, "as it was", w.s, true)
	w.s.Used = 1001
	wantSends(t, "no state, and object 0 is a context", w.s, false)
}

// TestP18_2_LiteralsInTheContext: the step goes on to the next place ahead of reading the literal, that may be ip.
func TestP18_2_LiteralsInTheContext(t *testing.T) {
	for k := range 22 {
		w := newWorld(t)
		m := w.body(0, 0, 0, []api.Instr{{Op: api.Jump, Arg: 1}, {Op: api.Send, Arg: 8*k + 1}, {Op: api.Return}})
		c := w.runs(m, box, 11, 13, 15)
		w.at(1)
		w.slots(m)[4] = c
		sel := w.slots(c)[k]
		if k == 1 {
			sel = 5
		}
		wantNext(t, fmt.Sprint("literal ", k), w.s, api.Sent{Sel: sel, Receiver: 13}, true)
		if told, _ := w.wantTold(fmt.Sprint("literal ", k), w.s); !told {
			t.Errorf("literal %d was not sent", k)
		}
	}
}

// wantTold holds Next against what the step does where nothing is understood: then a method is told the selector.
func (w *world) wantTold(what string, s api.State) (told, asked bool) {
	w.Helper()
	y := world{w.T, copyOf(s), api.Tape{}}
	y.s.Heap.Cap, y.s.Halt, y.s.Steps, y.s.Used = 256, 0, 0, 0
	m := y.method(0, 1, 1, "self; return")
	y.s.Heap.Objs[dict/2].Slots = []int{22, m}
	c, e := step.Context(y.s)
	if e != 0 {
		return false, false
	}
	l := y.slots(c)
	op := y.s.Heap.Objs[y.slots(l[3])[3]/2].Text[l[1]/2*2]
	sent, ok := runner.Next(y.s)
	a, _, _ := step.Do(y.s, y.x)
	if op != 8 && op != 9 {
		if ok {
			w.Fatalf("%s: %v is no message", what, sent)
		}
		return false, false
	}
	if !ok {
		if a.Halt != errStack {
			w.Fatalf("%s: no message is told; but the step halts by %d", what, a.Halt)
		}
		return false, true
	}
	if a.Halt == errStack {
		w.Fatalf("%s: the message %v is told; but not so many were pushed", what, sent)
	}
	if a.Halt != 0 {
		// There is no such class, say: that's found behind the message.
		return false, true
	}
	to := a.Heap.Objs[a.Heap.Objs[a.Proc/2].Slots[1]/2].Slots
	if sent.Sel == 22 {
		// That is understood: its argument is whatever it had.
		to[6] = 22
	}
	if to[3] != m || to[0] != c || to[4] != sent.Receiver || to[6] != sent.Sel {
		w.Fatalf("%s: the message %v is told; but the step goes to %v", what, sent, to)
	}
	return true, true
}
