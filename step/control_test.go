package step_test

import (
	"anamnesis/api"
	"anamnesis/prim"
	"fmt"
	"testing"
)

// asks is a world in which a context asks primitive num of v with arguments; the context, and the method that has it.
func asks(t *testing.T, num, v int, args ...int) (w *world, c, m int) {
	w = newWorld(t)
	c, m = w.asks(num, v, args...)
	return w, c, m
}

func (w *world) asks(num, v int, args ...int) (c, m int) {
	w.Helper()
	n := len(args)
	m = w.method(num, n, n, "self; return")
	if len(w.slots(dict)) == 0 {
		w.knows(57, m)
	}
	w.slots(dict)[1] = m
	c = w.code(fmt.Sprintf("send 0 %d; return", n), []int{57}, append([]int{51, 53, v}, args...)...)
	return c, m
}

// asked is what any message does ahead of what is done.
func (w *world) asked(c int) {
	s := w.slots(c)
	w.at(c, 1)
	w.popped(c, s[2]/2-2)
}

// wantFails holds a step against one in which the primitive fails: so its method is entered.
func (w *world) wantFails(what string) {
	w.Helper()
	c := w.slots(w.s.Proc)[1]
	s := w.slots(c)
	args := append([]int(nil), s[9:6+s[2]/2]...)
	v := s[8]
	w.wantThen(what+" (fails)", func(w *world) {
		w.asked(c)
		w.entered(c, w.slots(dict)[1], v, 0, args...)
	})
}

// wantTakes holds primitive num of v against failing of fewer arguments, and of more.
func (w *world) wantTakes(num, v, least, most int) {
	w.Helper()
	for n := range 5 {
		if n < least || n > most {
			args := []int{3, 3, 3, 3}[:n]
			y := newWorld(w.T)
			y.s = copyOf(w.s)
			y.asks(num, v, args...)
			y.wantFails(fmt.Sprint("primitive ", num, " of ", n, " arguments"))
		}
	}
}

// TestP17_4_Numbered: primitives 1 to 27 are layer 13's.
func TestP17_4_Numbered(t *testing.T) {
	var done, failed, full [28]int
	s := spread(1)
	for num := 1; num < 28; num++ {
		takes, _ := prim.Args(num)
		for range 400 {
			w := newWorld(t)
			w.add(api.Obj{Class: 8, Kind: 2, Bits: 4607182418800017408})
			n := takes
			if s.below(8) == 0 {
				n = s.below(5)
			}
			args := make([]int, n)
			for i := range args {
				args[i] = s.of(append(values(), 38, 38, 3, 3, 5, 1)...)
			}
			v := s.of(append(values(), 38, 38, 3, 3, box, below)...)
			c, _ := w.asks(num, v, args...)
			what := fmt.Sprint("primitive ", num, " of ", v, args)
			if s.below(5) == 0 {
				w.s.Heap.Cap = len(w.s.Heap.Objs)
			}
			y := w.then(func(w *world) { w.asked(c) })
			h, x, e := prim.Do(y.s.Heap, num, v, args)
			switch {
			case e == 130 && w.s.Heap.Cap > len(w.s.Heap.Objs):
				failed[num]++
				w.wantFails(what)
			case e == 130 || e == errFull:
				full[num]++
				w.wantHalt(what+", full", errFull)
			default:
				done[num]++
				w.wantThen(what, func(w *world) {
					w.asked(c)
					w.s.Heap = h
					w.pushed(c, x)
				})
			}
		}
		if done[num] == 0 || num != 13 && num != 14 && num != 15 && failed[num] == 0 || full[num] == 0 && failed[num] > 20 {
			t.Errorf("primitive %d: done %d times, failed %d, no room %d", num, done[num], failed[num], full[num])
		}
	}
}

// TestP17_4_NoRoomForThePrimitive: that fails the step, and not the primitive, whose method would not take as many arguments.
func TestP17_4_NoRoomForThePrimitive(t *testing.T) {
	for num, v := range map[int]int{11: above, 24: 7} {
		w, _, m := asks(t, num, v)
		w.slots(m)[1], w.slots(m)[2] = 3, 3
		w.s.Heap.Cap = len(w.s.Heap.Objs)
		w.wantHalt(fmt.Sprint("primitive ", num), errFull)
	}
}

// TestP17_4_BehindThePrimitive: what it changes may be the context, onto which its answer is pushed.
func TestP17_4_BehindThePrimitive(t *testing.T) {
	// Slot 3, from 1 on, is sp.
	w, c, _ := asks(t, 9, box, 7, 33)
	w.slots(c)[8] = c
	w.wantHalt("sp is 16, and pushed upon", errStack)
	w.slots(c)[10] = 35
	w.wantHalt("sp is 17", errFrame)
	w.slots(c)[10] = 31
	w.wantThen("sp is 15", func(w *world) {
		w.asked(c)
		w.slots(c)[2] = 31
		w.pushed(c, 31)
	})
	// Slot 2 of the process is its context: the step goes on with the one that it found.
	w, c, _ = asks(t, 9, box, 5, 7)
	p := w.s.Proc
	other := w.context(w.method(0, 0, 0, "self; return"), box)
	w.slots(c)[8], w.slots(c)[10] = p, other
	w.wantThen("another context", func(w *world) {
		w.asked(c)
		w.slots(p)[1] = other
		w.pushed(c, other)
	})
	// Two that change places.
	w, c, _ = asks(t, 16, below, box)
	w.slots(c)[9] = c
	w.wantHalt("the context is another object", errFrame)
	w.slots(c)[9] = box
	w.wantThen("two others", func(w *world) {
		w.asked(c)
		l := w.s.Heap.Objs
		l[below/2], l[box/2] = l[box/2], l[below/2]
		w.pushed(c, below)
	})
}

// TestP17_4_NoSuch: there are none of these numbers.
func TestP17_4_NoSuch(t *testing.T) {
	for num := 28; num < 64; num++ {
		if num >= 40 && num <= 52 {
			continue
		}
		for n := range 5 {
			for _, v := range []int{box, sem, 7} {
				w, _, _ := asks(t, num, v, []int{3, 3, 3, 3}[:n]...)
				w.wantFails(fmt.Sprint("primitive ", num))
			}
		}
	}
}

func TestP17_4_HowManyArguments(t *testing.T) {
	for num, takes := range map[int][2]int{41: {0, 0}, 42: {0, 0}, 43: {0, 0}, 44: {0, 0}, 45: {0, 0}, 46: {0, 0}, 47: {0, 0}, 48: {1, 1}, 49: {0, 0}, 50: {1, 1}, 51: {0, 0}, 52: {1, 4}} {
		w := newWorld(t)
		w.s.Heap.Objs[3].Slots[1] = w.list(3, w.method(0, 0, 0, "self; return"))
		m := w.method(0, 0, 0, "self; return")
		c := w.context(m, box)
		p := w.process(c, 2)
		b := w.add(api.Obj{Class: 10, Slots: []int{m, c}})
		v := map[int]int{41: b, 42: sem, 43: sem, 46: p, 47: p, 48: p}[num]
		if num == 45 {
			w.s.Ready, v = p, p
		}
		if v == 0 {
			v = 7
		}
		w.wantTakes(num, v, takes[0], takes[1])
		// With as many as there are to be it does not fail.
		c, _ = w.asks(num, v, []int{3, 3, 3, 3}[:takes[0]]...)
		if s, _ := w.run(1); s.Halt != 0 && s.Halt != errStop || len(s.Heap.Objs) > len(w.s.Heap.Objs) && num != 41 && num != 52 {
			t.Errorf("primitive %d: Halt %d, %d objects", num, s.Halt, len(s.Heap.Objs))
		}
	}
}

// blocks is a world in which primitive num is asked of a block, that takes n arguments, with these; the context, the block, its home, its method.
func blocks(t *testing.T, num, n int, args ...int) (w *world, c, b, home, m int) {
	w = newWorld(t)
	m = w.method(3, n, n+2, "self; return")
	home = w.context(w.method(0, 1, 2, "self; return"), text, 61, 63)
	b = w.add(api.Obj{Class: 10, Slots: []int{m, home}})
	c, _ = w.asks(num, b, args...)
	return w, c, b, home, m
}

func TestP17_4_Value(t *testing.T) {
	for n := range 5 {
		for takes := range 5 {
			args := []int{61, sem, 63, 2}[:n]
			w, c, _, home, m := blocks(t, 40, takes, args...)
			what := fmt.Sprint("value of ", n, " for ", takes)
			if n != takes {
				w.wantFails(what)
				continue
			}
			entered := func(w *world) { w.asked(c); w.entered(c, m, text, home, args...) }
			w.wantThen(what, entered)
			w.slots(home)[0] = home
			w.wantThen(what+", where the home has returned", entered)
			w.s.Heap.Cap = len(w.s.Heap.Objs)
			w.wantHalt(what+", no room", errFull)
		}
	}
}

// TestP17_4_NoBlock: what is no block that can be entered, for 40 and 41.
func TestP17_4_NoBlock(t *testing.T) {
	for _, num := range []int{40, 41} {
		w, c, b, home, m := blocks(t, num, 0)
		for _, v := range append(values(), home, m, c, w.s.Proc) {
			w.slots(c)[8] = v
			w.wantFails(fmt.Sprint(num, " of no block"))
		}
		w.slots(c)[8] = b
		for _, v := range append(values(), w.s.Proc, m) {
			w.slots(b)[1] = v
			w.wantFails(fmt.Sprint(num, " of one whose home is no context"))
		}
		w.slots(b)[1] = home
		for _, v := range append(values(), home) {
			w.slots(b)[0] = v
			w.wantFails(fmt.Sprint(num, " of one whose method is none"))
		}
		w.slots(b)[0] = m
		o := &w.s.Heap.Objs[b/2]
		o.Class = 12
		w.wantFails("another class")
		o.Class, o.Slots = 10, []int{m, home, 0}
		w.wantFails("three slots")
		o.Slots = []int{m}
		w.wantFails("one slot")
		*o = api.Obj{Class: 10, Kind: 1, Text: "ab"}
		w.wantFails("bytes")
		*o = api.Obj{Class: 10, Slots: []int{m, 0}}
		w.s.Heap.Objs[0] = copyOf(w.s).Heap.Objs[home/2]
		w.wantFails("object 0, that is a context, is no home")
	}
}

func TestP17_4_Fork(t *testing.T) {
	w, c, _, home, m := blocks(t, 41, 0)
	forked := func(prio int) func(w *world) int {
		return func(w *world) int {
			w.asked(c)
			return w.fresh(14, 0, w.freshContext(0, m, text, home), 2*prio+1, 0)
		}
	}
	for prio := range 8 {
		w.slots(w.s.Proc)[2] = 2*prio + 1
		w.wantThen("nobody is ready", func(w *world) {
			p := forked(prio)(w)
			w.s.Ready = p
			w.pushed(c, p)
		})
	}
	for n := 1; n < 5; n++ {
		args := []int{61, 63, 65, 67}[:n]
		y, _, _, _, _ := blocks(t, 41, n, args...)
		y.wantFails(fmt.Sprint("a block of ", n, " arguments, and as many"))
		y, _, _, _, _ = blocks(t, 41, n)
		y.wantFails(fmt.Sprint("a block of ", n, " arguments, and none"))
	}
	q, r := w.process(c, 4), w.process(c, 2)
	w.s.Ready = w.waits(q, r)
	w.slots(w.s.Proc)[2] = 9
	w.wantThen("between two that are ready", func(w *world) {
		p := forked(4)(w)
		w.waits(q, p, r)
		w.pushed(c, p)
	})
	w.slots(w.s.Proc)[2] = 11
	w.wantThen("ahead of two that are ready", func(w *world) {
		p := forked(5)(w)
		w.s.Ready = w.waits(p, q)
		w.pushed(c, p)
	})
	w.s.Heap.Cap = len(w.s.Heap.Objs) + 1
	w.wantHalt("room for the context alone", errFull)
	w.s.Heap.Cap = len(w.s.Heap.Objs)
	w.wantHalt("no room", errFull)
	w.s.Heap.Cap, w.s.Ready = 256, box
	w.wantHalt("no list", errList)
	w.s.Heap.Cap = len(w.s.Heap.Objs) + 1
	w.wantHalt("no list, and no room", errFull)
}

// notOf holds a primitive against failing of values that are not what it asks for.
func notOf(t *testing.T, num int, l []int, args ...int) {
	t.Helper()
	for _, v := range l {
		w, _, _ := asks(t, num, v, args...)
		w.wantFails(fmt.Sprint("primitive ", num, " of ", v))
	}
}

// noSems are values of plain, but the semaphore.
func noSems() []int {
	var l []int
	for _, v := range values() {
		if v != sem {
			l = append(l, v)
		}
	}
	return l
}

func TestP17_4_Wait(t *testing.T) {
	notOf(t, 42, noSems())
	w, c, _ := asks(t, 42, sem)
	for _, n := range []int{3, 5, 77, greatest} {
		w.slots(sem)[0] = n
		w.wantThen(fmt.Sprint("a count ", n), func(w *world) { w.asked(c); w.slots(sem)[0] = n - 2; w.pushed(c, sem) })
	}
	w.slots(sem)[0] = -1
	w.wantFails("a count below 0")
	w.slots(sem)[0] = 1
	p := w.s.Proc
	waits := func(w *world) {
		w.asked(c)
		w.pushed(c, sem)
		w.slots(p)[3], w.slots(sem)[1], w.s.Proc = sem, p, 0
	}
	w.wantThen("nobody is ready", waits)
	q, r := w.process(c, 4), w.process(c, 2)
	w.s.Ready = w.waits(q, r)
	w.wantThen("others are ready", func(w *world) { waits(w); w.s.Proc, w.s.Ready, w.slots(q)[0] = q, r, 0 })
	a, b := w.process(c, 1), w.process(c, 5)
	w.slots(sem)[1] = w.waits(a, b)
	w.wantThen("others wait, of whatever priority", func(w *world) {
		waits(w)
		w.slots(sem)[1] = w.waits(a, b, p)
		w.s.Proc, w.s.Ready, w.slots(q)[0] = q, r, 0
	})
	w.slots(w.s.Proc)[0] = q
	w.wantHalt("it has a next", errProc)
	w.slots(w.s.Proc)[0], w.slots(sem)[1] = 0, w.waits(a, p)
	w.wantHalt("it waits already", errProc)
	w.slots(sem)[1] = box
	w.wantHalt("no list at the semaphore", errList)
	w.slots(sem)[1], w.s.Ready = 0, box
	w.wantHalt("no list that is ready", errList)
	w.slots(sem)[0] = 3
	w.wantThen("a count, and no list", func(w *world) { w.asked(c); w.slots(sem)[0] = 1; w.pushed(c, sem) })
}

func TestP17_4_Signal(t *testing.T) {
	notOf(t, 43, noSems())
	w, c, _ := asks(t, 43, sem)
	for _, n := range []int{1, 3, 77, greatest - 2} {
		w.slots(sem)[0] = n
		w.wantThen(fmt.Sprint("a count ", n), func(w *world) { w.asked(c); w.slots(sem)[0] = n + 2; w.pushed(c, sem) })
	}
	w.slots(sem)[0] = greatest
	w.wantFails("the greatest count")
	a, b := w.process(c, 1), w.process(c, 5)
	w.slots(a)[3], w.slots(b)[3] = sem, sem
	w.slots(sem)[1] = w.waits(a, b)
	signalled := func(w *world) {
		w.asked(c)
		w.slots(a)[0], w.slots(a)[3], w.slots(sem)[1], w.s.Ready = 0, 0, b, a
		w.pushed(c, sem)
	}
	w.wantThen("the greatest count, but one waits", signalled)
	w.slots(sem)[0] = 5
	w.wantThen("two wait", signalled)
	w.slots(a)[3] = box
	w.wantThen("who waits, but is said to do so elsewhere", signalled)
	q, r := w.process(c, 1), w.process(c, 0)
	w.s.Ready = w.waits(q, r)
	w.wantThen("others are ready", func(w *world) {
		signalled(w)
		w.s.Ready = w.waits(q, a, r)
	})
	w.slots(b)[0] = box
	w.wantHalt("no list at the semaphore", errList)
	w.slots(b)[0] = 0
	w.s.Ready = box
	w.wantHalt("no list that is ready", errList)
	w.s.Ready = w.waits(q, b)
	w.wantThen("the other one is ready", func(w *world) {
		signalled(w)
		w.s.Ready = w.waits(q, b, a)
	})
}

func TestP17_4_Yield(t *testing.T) {
	for _, v := range values() {
		w, c, _ := asks(t, 44, v)
		w.wantThen("nobody is ready", func(w *world) { w.asked(c); w.pushed(c, v) })
		p, q, r := w.s.Proc, w.process(c, 3), w.process(c, 2)
		w.s.Ready = w.waits(q, r)
		w.wantThen("one of the same priority", func(w *world) {
			w.asked(c)
			w.pushed(c, v)
			w.slots(q)[0] = 0
			w.s.Proc, w.s.Ready = q, w.waits(p, r)
		})
		w.slots(q)[2] = 5
		w.wantThen("none of the same priority", func(w *world) { w.asked(c); w.pushed(c, v) })
	}
	w, c, _ := asks(t, 44, box)
	p, q := w.s.Proc, w.process(c, 3)
	w.s.Ready, w.slots(p)[0] = q, q
	w.wantHalt("it has a next", errProc)
	w.s.Ready = box
	w.wantHalt("no list", errList)
	w.s.Ready = 0
	w.wantThen("it has a next, and nobody is ready", func(w *world) { w.asked(c); w.pushed(c, box) })
}

// waiting is a world in which primitive num is asked of a process p, with a semaphore at which three others wait: a, b, d; and q and r are ready.
func waiting(t *testing.T, num int, args ...int) (w *world, c, p int, l []int) {
	w = newWorld(t)
	x := w.context(w.method(0, 0, 1, "self; return"), box)
	for _, prio := range []int{1, 5, 3, 4, 2, 2} {
		l = append(l, w.process(x, prio))
	}
	for _, v := range l[:3] {
		w.slots(v)[3] = sem
	}
	w.slots(sem)[1], w.s.Ready = w.waits(l[0], l[1], l[2]), w.waits(l[3], l[4])
	p = l[5]
	c, _ = w.asks(num, p, args...)
	return w, c, p, l
}

// dropped is what 45 and 47 do to the lists.
func dropped(w *world, l []int, k int) {
	v := l[k]
	switch {
	case k < 3:
		rest := append(append([]int(nil), l[:k]...), l[k+1:3]...)
		w.slots(rest[1])[0] = 0
		w.slots(sem)[1] = w.waits(rest...)
		w.slots(v)[3] = 0
	case k == 3:
		w.s.Ready = l[4]
	case k == 4:
		w.slots(l[3])[0] = 0
	}
	w.slots(v)[0] = 0
}

func TestP17_4_Suspend(t *testing.T) {
	notOf(t, 45, values())
	w, c, p, l := waiting(t, 45)
	w.wantFails("who waits nowhere")
	for k, v := range l[:5] {
		w.slots(c)[8] = v
		w.wantThen(fmt.Sprint("who waits at place ", k), func(w *world) { w.asked(c); dropped(w, l, k); w.pushed(c, v) })
	}
	w.slots(c)[8] = w.s.Proc
	w.wantThen("itself", func(w *world) {
		w.asked(c)
		w.pushed(c, w.s.Proc)
		w.s.Proc, w.s.Ready, w.slots(l[3])[0] = l[3], l[4], 0
	})
	ready := w.s.Ready
	w.s.Ready = 0
	w.wantThen("itself, and nobody is ready", func(w *world) { w.asked(c); w.pushed(c, w.s.Proc); w.s.Proc = 0 })
	w.s.Ready = box
	w.wantHalt("itself, and no list", errList)
	w.s.Ready = ready
	// Said to wait at the semaphore, where it does not.
	w.slots(c)[8], w.slots(p)[3] = p, sem
	w.wantFails("who is said to wait, and does not")
	w.slots(c)[8], w.slots(l[4])[3] = l[4], sem
	w.wantThen("who is said to wait, and is ready", func(w *world) { w.asked(c); dropped(w, l, 4); w.pushed(c, l[4]) })
	// Waits at the semaphore, but is not said to.
	w.slots(c)[8] = l[1]
	for _, v := range []int{0, box, root, l[0]} {
		w.slots(l[1])[3] = v
		w.wantFails("who is not said to wait, and does")
	}
	w.slots(l[1])[3] = sem
	w.slots(sem)[0] = -1
	w.wantFails("no semaphore")
	w.slots(sem)[0] = 1
	w.slots(l[2])[0] = box
	w.wantFails("no list at the semaphore")
	w.slots(c)[8], w.slots(l[4])[0] = l[3], box
	w.wantFails("no list that is ready")
}

// TestP17_4_SuspendAtBoth: the semaphore comes ahead of those that are ready.
func TestP17_4_SuspendAtBoth(t *testing.T) {
	for _, num := range []int{45, 47} {
		w, c, _, l := waiting(t, num)
		// Both lists end with the same one.
		w.slots(l[4])[0] = l[2]
		w.slots(c)[8] = l[2]
		w.wantThen("in both", func(w *world) {
			w.asked(c)
			dropped(w, l, 2)
			if num == 47 {
				w.slots(l[2])[1] = 0
			}
			w.pushed(c, l[2])
		})
	}
}

func TestP17_4_Resume(t *testing.T) {
	notOf(t, 46, values())
	w, c, p, l := waiting(t, 46)
	resumed := func(w *world) { w.asked(c); w.waits(l[3], l[4], p); w.pushed(c, p) }
	w.wantThen("behind one of the same priority", resumed)
	w.slots(p)[2] = 7
	w.wantThen("behind one of a greater priority", func(w *world) { w.asked(c); w.waits(l[3], p, l[4]); w.pushed(c, p) })
	w.slots(p)[2] = 15
	w.wantThen("ahead of all", func(w *world) { w.asked(c); w.s.Ready = w.waits(p, l[3]); w.pushed(c, p) })
	w.slots(p)[2] = 5
	w.slots(p)[3] = sem
	w.wantFails("who is said to wait")
	w.slots(p)[3], w.slots(p)[0] = 0, l[0]
	w.wantFails("who has a next")
	w.slots(p)[0] = 0
	for _, v := range []int{0, box, root, sem, p} {
		w.slots(p)[1] = v
		w.wantFails("who has no context")
	}
	w.slots(p)[1] = c
	w.wantThen("in the same context", resumed)
	for _, v := range append(l[:5:5], w.s.Proc) {
		w.slots(c)[8] = v
		w.wantFails("who waits, or runs")
	}
	w.slots(w.s.Proc)[0] = 0
	w.s.Ready = 0
	w.wantFails("who runs, and nobody is ready")
	w.slots(c)[8] = p
	w.wantThen("nobody is ready", func(w *world) { w.asked(c); w.s.Ready = p; w.pushed(c, p) })
	w.s.Ready = box
	w.wantHalt("no list", errList)
	w.slots(p)[1] = 0
	w.wantFails("no list, and no context")
}

func TestP17_4_Terminate(t *testing.T) {
	notOf(t, 47, values())
	w, c, p, l := waiting(t, 47)
	w.wantThen("who waits nowhere", func(w *world) { w.asked(c); w.slots(p)[1] = 0; w.pushed(c, p) })
	for k, v := range l[:5] {
		w.slots(c)[8] = v
		w.wantThen(fmt.Sprint("who waits at place ", k), func(w *world) {
			w.asked(c)
			dropped(w, l, k)
			w.slots(v)[1] = 0
			w.pushed(c, v)
		})
	}
	own := w.s.Proc
	w.slots(c)[8] = own
	ended := func(w *world) { w.asked(c); w.slots(own)[1] = 0 }
	w.wantThen("itself", func(w *world) {
		ended(w)
		w.s.Proc, w.s.Ready, w.slots(l[3])[0] = l[3], l[4], 0
	})
	w.s.Ready = 0
	y := w.wantThen("itself, and nobody is ready", func(w *world) { ended(w); w.s.Proc = 0 })
	y.wantHalt("then nobody runs", errIdle)
	w.s.Ready = box
	w.wantHalt("itself, and no list", errList)
	w.slots(c)[8] = p
	w.wantThen("no list that is ready", func(w *world) { w.asked(c); w.slots(p)[1] = 0; w.pushed(c, p) })
	w.slots(p)[3] = sem
	w.wantThen("who is said to wait, and does not", func(w *world) { w.asked(c); w.slots(p)[1] = 0; w.pushed(c, p) })
	w.slots(c)[8], w.slots(l[2])[0] = l[1], box
	w.wantThen("no list at the semaphore", func(w *world) { w.asked(c); w.slots(l[1])[1] = 0; w.pushed(c, l[1]) })
}

func TestP17_4_SetPriority(t *testing.T) {
	notOf(t, 48, values(), 5)
	w, c, p, l := waiting(t, 48, 5)
	own := w.s.Proc
	for n := range 8 {
		w.slots(c)[9] = 2*n + 1
		for _, v := range []int{p, own} {
			w.slots(c)[8] = v
			w.wantThen(fmt.Sprint("priority ", n), func(w *world) { w.asked(c); w.slots(v)[2] = 2*n + 1; w.pushed(c, v) })
		}
	}
	for _, n := range []int{-1, -3, 17, 19, greatest, least, 0, 2, 4, box, p} {
		w.slots(c)[9] = n
		w.wantFails(fmt.Sprint("priority's value ", n))
	}
	w.slots(c)[9] = 5
	for _, v := range l[:5] {
		w.slots(c)[8] = v
		w.wantFails("who waits")
	}
	w.slots(l[2])[3] = 0
	w.slots(c)[8] = l[2]
	w.wantThen("the last one at a semaphore, of which it is not said", func(w *world) { w.asked(c); w.slots(l[2])[2] = 5; w.pushed(c, l[2]) })
	w.slots(c)[8], w.slots(p)[3] = p, sem
	w.wantFails("who is said to wait")
	w.slots(p)[3], w.slots(p)[0] = 0, box
	w.wantFails("who has a next")
	w.slots(p)[0], w.s.Ready = 0, box
	w.wantThen("no list that is ready", func(w *world) { w.asked(c); w.slots(p)[2] = 5; w.pushed(c, p) })
}

func TestP17_4_Input(t *testing.T) {
	for _, n := range []int{0, 1, -1, 5, 1<<30 - 1, -1 << 30} {
		for _, v := range []int{7, box} {
			w, c, _ := asks(t, 49, v)
			w.x = api.Tape{Rest: []int{n, 3}}
			w.wantThen("of Rest", func(w *world) {
				w.asked(c)
				w.s.Used, w.x = 1, api.Tape{Log: []int{n}, Rest: []int{3}}
				w.pushed(c, 2*n+1)
			})
			w.s.Used, w.x = 1, api.Tape{Log: []int{8, n, 9}, Rest: []int{3}}
			w.wantThen("of Log", func(w *world) { w.asked(c); w.s.Used = 2; w.pushed(c, 2*n+1) })
		}
	}
	w, c, _ := asks(t, 49, 7)
	w.wantThen("of nothing", func(w *world) { w.asked(c); w.s.Used, w.x.Log = 1, []int{0}; w.pushed(c, 1) })
	w.s.Used, w.x.Log = 1000, make([]int, 1000)
	w.wantHalt("of a full tape", errTape)
}

func TestP17_4_InputBelow(t *testing.T) {
	for _, n := range []int{1, 2, 3, 10, 1<<30 - 1} {
		for _, in := range []int{0, 1, -1, 2, -2, 9, 10, 11, -10, -11, 1<<30 - 1, 1<<30 - 2, -1 << 30, -1<<30 + 1} {
			w, c, _ := asks(t, 50, box, 2*n+1)
			w.x.Rest = []int{in}
			w.wantThen(fmt.Sprint(in, " below ", n), func(w *world) {
				w.asked(c)
				w.s.Used, w.x = 1, api.Tape{Log: []int{in}}
				w.pushed(c, 2*((in%n+n)%n)+1)
			})
		}
	}
	for _, v := range []int{1, -1, -3, least, 0, 2, 4, box} {
		w, c, _ := asks(t, 50, box, v)
		w.x.Rest = []int{5}
		w.wantFails(fmt.Sprint("below the value ", v))
		w.s.Used, w.x = 1000, api.Tape{Log: make([]int, 1000)}
		w.wantFails(fmt.Sprint("below the value ", v, ", of a full tape"))
		w.slots(c)[9] = 5
		w.wantHalt("of a full tape", errTape)
	}
}

func TestP17_4_Stop(t *testing.T) {
	for _, v := range values() {
		w, _, _ := asks(t, 51, v)
		w.wantHalt("stop", errStop)
	}
}

func TestP17_4_Perform(t *testing.T) {
	for n := range 4 {
		for _, v := range []int{7, box, below} {
			args := []int{61, sem, 63}[:n]
			w, c, _ := asks(t, 52, v, append([]int{59}, args...)...)
			w.wantFails("nothing is understood")
			m := w.method(0, n, n+1, "self; return")
			w.knows(59, m)
			what := fmt.Sprint(v, " performs with ", n)
			w.wantThen(what, func(w *world) { w.asked(c); w.entered(c, m, v, 0, args...) })
			near := w.method(0, n, n+2, "self; return")
			w.s.Heap.Objs[3].Slots[1], w.slots(above)[1] = w.list(59, near), w.list(59, near)
			w.wantThen(what+", by its class", func(w *world) {
				w.asked(c)
				if v == box {
					w.entered(c, m, v, 0, args...)
				} else {
					w.entered(c, near, v, 0, args...)
				}
			})
			w.s.Heap.Objs[3].Slots[1], w.slots(above)[1] = 0, 0
			w.slots(dict)[3] = w.method(0, n+1, n+1, "self; return")
			w.wantHalt(what+", unlike as many", errFrame)
			w.slots(dict)[3] = box
			w.wantHalt(what+", no method", errFrame)
			w.slots(dict)[2] = 22
			w.wantFails(what + ", it is not understood, and that is known")
		}
	}
}

// TestP17_4_PerformPrimitive: what is performed may be a primitive, and fail; then its own method is entered, and not the one of 52.
func TestP17_4_PerformPrimitive(t *testing.T) {
	w, c, _ := asks(t, 52, 7, 59, 9)
	m := w.method(1, 1, 1, "self; return")
	w.knows(59, m)
	w.wantThen("a sum", func(w *world) { w.asked(c); w.pushed(c, 15) })
	w.slots(c)[8] = greatest
	w.wantThen("a sum that is too great", func(w *world) { w.asked(c); w.entered(c, m, greatest, 0, 9) })
	w.slots(w.slots(dict)[3])[0] = 103
	w.wantThen("stop, but with an argument", func(w *world) { w.asked(c); w.entered(c, m, greatest, 0, 9) })
	w, c, _ = asks(t, 52, 7, 59)
	w.knows(59, w.method(51, 0, 0, "self; return"))
	w.wantHalt("stop", errStop)
}

// TestP17_4_PerformPerform: 52 performs itself, with one argument less each time.
func TestP17_4_PerformPerform(t *testing.T) {
	w, c, _ := asks(t, 52, box, 57, 57, 57, 59)
	m := w.method(0, 0, 1, "self; return")
	w.knows(59, m)
	w.wantThen("four times", func(w *world) { w.asked(c); w.entered(c, m, box, 0) })
	w.slots(c)[12] = 61
	w.wantHalt("the last one is not understood: its method takes one argument", errFrame)
	w.slots(w.slots(dict)[1])[1] = 3
	w.wantThen("the last one is not understood", func(w *world) { w.asked(c); w.entered(c, w.slots(dict)[1], box, 0, 61) })
	w.slots(c)[12] = 57
	w.wantHalt("nothing is left to perform", errFrame)
}

func TestP17_4_PerformThatFails(t *testing.T) {
	w, _, _ := asks(t, 52, below, 59)
	w.slots(above)[0] = box
	w.wantHalt("a class above that is none", errClass)
	// The one of 52 is found before that; the other one is not.
	w.slots(above)[1] = w.list(57, w.slots(dict)[1])
	w.wantFails("one above is none")
	w.slots(above)[0] = root
	w.knows(59, w.method(0, 0, 0, "self; return"))
	w.s.Heap.Cap = len(w.s.Heap.Objs)
	w.wantHalt("no room", errFull)
}
