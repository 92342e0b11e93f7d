package step_test

import (
	"anamnesis/api"
	"fmt"
	"testing"
)

// full is an area of which all counts.
func full() []int { return []int{1, 3, 5, 7, 9, 11, 13, 15, 17, 19, 21, 23, 25, 27, 29, 31} }

// values are some of plain's, of all sorts.
func values() []int {
	return []int{0, 1, 2, 3, 4, -1, 7, greatest, least, root, dict, above, box, text, sem, below}
}

func TestP17_2_Pushes(t *testing.T) {
	for _, c := range []struct {
		line string
		want int
	}{{"self", box}, {"lit 0", 41}, {"lit 1", sem}, {"temp 0", 51}, {"temp 1", 53}, {"field 0", 7}, {"field 1", 9}, {"outer 0", 51}, {"outer 1", 53}} {
		w := newWorld(t)
		x := w.code(c.line+"; return", []int{41, sem}, 51, 53, 55)
		w.wantThen(c.line, func(w *world) { w.at(x, 1); w.pushed(x, c.want) })
	}
	w := newWorld(t)
	x := w.code("this; return", nil)
	w.wantThen("this", func(w *world) { w.at(x, 1); w.pushed(x, x) })
}

func TestP17_2_PushesAllValues(t *testing.T) {
	for _, v := range values() {
		for _, line := range []string{"self", "lit 1", "temp 1", "outer 1"} {
			w := newWorld(t)
			x := w.runs(w.method(0, 0, 2, line+"; return", 1, v), v, 51, v)
			w.wantThen(fmt.Sprint(line, " of ", v), func(w *world) { w.at(x, 1); w.pushed(x, v) })
		}
	}
}

// TestP17_2_NoRoom: all that push fail where the area is full, but for dup, that pops first, and then pushes twice.
func TestP17_2_NoRoom(t *testing.T) {
	for _, line := range []string{"self", "lit 0", "temp 0", "field 0", "outer 0", "this", "block 1", "dup"} {
		w := newWorld(t)
		m := w.method(0, 0, 0, "self; return")
		x := w.code(line+"; return", []int{41, m}, full()...)
		w.wantHalt(line+", full", errStack)
		w.popped(x, 1)
		if y := w.do(line); y.Halt != 0 || y.Heap.Objs[x/2].Slots[2] != 33 {
			t.Fatalf("%s: one less than full: Halt %d", line, y.Halt)
		}
	}
}

// do is the state behind a step.
func (w *world) do(what string) api.State {
	w.Helper()
	s, x := w.run(1)
	if len(s.Heap.Objs) == 0 || len(x.Log) < s.Used {
		w.Fatalf("%s: no state", what)
	}
	return s
}

func TestP17_2_PushFieldThatFails(t *testing.T) {
	for _, c := range []struct {
		receiver, field int
		want            api.Errno
	}{{box, 2, errSlot}, {box, 63, errSlot}, {0, 0, errSlot}, {below, 2, errSlot}, {text, 0, errKind}, {7, 0, errRef}, {-1, 1, errRef}} {
		for _, line := range []string{"field", "setfield"} {
			w := newWorld(t)
			w.runs(w.method(0, 0, 1, fmt.Sprint(line, " ", c.field, "; return")), c.receiver, 51, 53)
			w.wantHalt(fmt.Sprint(line, " ", c.field, " of ", c.receiver), c.want)
		}
	}
	w := newWorld(t)
	w.runs(w.method(0, 0, 1, "field 0; return"), 7, full()...)
	w.wantHalt("no field, and no room", errRef)
	w = newWorld(t)
	w.runs(w.method(0, 0, 1, "setfield 0; return"), 7, 51)
	w.wantHalt("nothing to be popped, and no field", errStack)
}

// TestP17_2_OwnContext: the receiver may be the context itself, in which the next place stands already.
func TestP17_2_OwnContext(t *testing.T) {
	w := newWorld(t)
	x := w.code("field 1; self; setfield 6; setfield 63; return", nil, 51, 53)
	w.slots(x)[4] = x
	y := w.wantThen("its own ip", func(w *world) { w.at(x, 1); w.pushed(x, 3) })
	y = y.wantThen("itself", func(w *world) { w.at(x, 2); w.pushed(x, x) })
	y = y.wantThen("its own temporary", func(w *world) { w.at(x, 3); w.popped(x, 1); w.slots(x)[6] = x })
	y.wantHalt("no such slot", errSlot)
	w = newWorld(t)
	x = w.code("setfield 2; return", nil, 51, 53, 55)
	w.slots(x)[4] = x
	y = w.wantThen("its own sp", func(w *world) { w.at(x, 1); w.popped(x, 1); w.slots(x)[2] = 55 })
	y.wantHalt("and is no context any more", errFrame)
}

func TestP17_2_Pops(t *testing.T) {
	for _, v := range values() {
		w := newWorld(t)
		x := w.code("settemp 1; return", nil, 51, 53, v)
		w.wantThen("settemp", func(w *world) { w.at(x, 1); w.popped(x, 1); w.slots(x)[7] = v })
		w = newWorld(t)
		x = w.code("setouter 0; return", nil, 51, 53, v)
		w.wantThen("setouter", func(w *world) { w.at(x, 1); w.popped(x, 1); w.slots(x)[6] = v })
		w = newWorld(t)
		x = w.code("setfield 1; return", nil, 51, 53, v)
		w.wantThen("setfield", func(w *world) { w.at(x, 1); w.popped(x, 1); w.slots(box)[1] = v })
		w = newWorld(t)
		x = w.code("pop; return", nil, 51, 53, v)
		w.wantThen("pop", func(w *world) { w.at(x, 1); w.popped(x, 1) })
		w = newWorld(t)
		x = w.code("dup; return", nil, 51, 53, v)
		w.wantThen("dup", func(w *world) { w.at(x, 1); w.pushed(x, v) })
	}
}

// TestP17_2_NothingToPop: temporaries are not popped.
func TestP17_2_NothingToPop(t *testing.T) {
	for _, line := range []string{"settemp 0", "setfield 0", "setouter 0", "pop", "dup", "iftrue 0", "iffalse 0", "send 0 0", "super 0 0"} {
		w := newWorld(t)
		w.code(line+"; return", []int{41, root}, 51, 53)
		w.wantHalt(line, errStack)
	}
	for _, line := range []string{"return", "home"} {
		w := newWorld(t)
		w.code(line, nil, 51, 53)
		w.wantHalt(line, errStack)
	}
}

// inBlock is a world in which a context with a home runs; both contexts.
func inBlock(t *testing.T, lines string, lits []int, area ...int) (w *world, c, home int) {
	w = newWorld(t)
	home = w.context(w.method(0, 1, 2, "lit 0; self; return", 43), box, 61, 63)
	c = w.code(lines, lits, area...)
	w.slots(c)[5] = home
	return w, c, home
}

func TestP17_2_Outer(t *testing.T) {
	w, c, _ := inBlock(t, "outer 1; setouter 0; self; return", nil, 51, 53)
	y := w.wantThen("outer", func(w *world) { w.at(c, 1); w.pushed(c, 63) })
	_, _, home := inBlock(t, "self; return", nil)
	y.wantThen("setouter", func(w *world) { w.at(c, 2); w.popped(c, 1); w.slots(home)[6] = 63 })
	for _, line := range []string{"outer 2", "setouter 2", "outer 7", "setouter 7"} {
		w, _, _ = inBlock(t, line+"; return", nil, 51, 53, 55)
		w.wantHalt(line, errStack)
	}
	for _, line := range []string{"outer 0", "setouter 0"} {
		w, c, home = inBlock(t, line+"; return", nil, 51, 53, 55)
		w.slots(c)[5] = box
		w.wantHalt(line+", the home is no context", errFrame)
		w.slots(c)[5] = 0
		w.wantHalt(line+", there is no home", errFrame)
		w.slots(c)[5], w.slots(home)[1] = home, 7
		w.wantHalt(line+", the home is at no instruction", errFrame)
	}
	w, c, _ = inBlock(t, "setouter 0; return", nil, 51, 53)
	w.slots(c)[5] = box
	w.wantHalt("nothing to be popped, and no home", errStack)
}

func TestP17_2_Jumps(t *testing.T) {
	for _, c := range []struct {
		line  string
		at, v int
	}{
		{"jump", 2, 9}, {"iftrue", 2, 2}, {"iftrue", 1, 4}, {"iffalse", 2, 4}, {"iffalse", 1, 2},
	} {
		w := newWorld(t)
		x := w.code(c.line+" 2; self; return", nil, 51, 53, c.v)
		w.wantThen(c.line, func(w *world) {
			w.at(x, c.at)
			if c.line != "jump" {
				w.popped(x, 1)
			}
		})
	}
	for _, v := range append(values(), 5) {
		for _, line := range []string{"iftrue", "iffalse"} {
			if v != 2 && v != 4 {
				w := newWorld(t)
				w.code(line+" 2; self; return", nil, 51, 53, v)
				w.wantHalt(fmt.Sprint(line, " of ", v), errBool)
			}
		}
	}
	w := newWorld(t)
	w.code("jump 0", nil)
	w.wantThen("onto itself", nil)
	w = newWorld(t)
	x := w.code("self; pop; self; jump 1", nil, 51, 53, 55)
	w.at(x, 3)
	w.wantThen("back", func(w *world) { w.at(x, 1) })
}

func TestP17_2_Block(t *testing.T) {
	w := newWorld(t)
	m := w.method(0, 1, 2, "self; return")
	c := w.code("block 1; return", []int{m, m + 6, 7})
	m2 := w.method(0, 3, 4, "self; return")
	w.slots(w.slots(w.slots(c)[3])[4])[1] = m2
	w.wantThen("of its own home", func(w *world) { w.at(c, 1); w.pushed(c, w.fresh(10, m2, c)) })
	w.slots(c)[5] = box
	w.wantThen("of another home", func(w *world) { w.at(c, 1); w.pushed(c, w.fresh(10, m2, box)) })
	w.slots(c)[5] = 0
	w.wantThen("of no home", func(w *world) { w.at(c, 1); w.pushed(c, w.fresh(10, m2, 0)) })
	w.s.Heap.Cap = len(w.s.Heap.Objs) + 1
	y := w.wantThen("the last one", func(w *world) { w.at(c, 1); w.pushed(c, w.fresh(10, m2, 0)) })
	y.at(c, 0)
	y.wantHalt("no room", errFull)
	for _, v := range values() {
		w.slots(w.slots(w.slots(c)[3])[4])[1] = v
		w.wantHalt("no method", errFrame)
		y.slots(y.slots(y.slots(c)[3])[4])[1] = v
		y.wantHalt("no method, and no room", errFrame)
	}
	w.slots(w.slots(w.slots(c)[3])[4])[1] = m2
	w.pushed(c, full()[2:]...)
	w.s.Heap.Cap = len(w.s.Heap.Objs)
	w.wantHalt("no room in the heap, and none in the area", errFull)
}

// called is a world in which a context runs that another one has sent; both.
func called(t *testing.T, lines string, area ...int) (w *world, c, sender int) {
	w = newWorld(t)
	sender = w.context(w.method(0, 0, 1, "self; self; return"), box, 61, 63)
	c = w.code(lines, []int{43}, area...)
	w.slots(c)[0] = sender
	return w, c, sender
}

func TestP17_2_Return(t *testing.T) {
	for _, line := range []string{"return", "home"} {
		for _, v := range values() {
			w, c, sender := called(t, line, 51, 53, 55, v)
			w.wantThen(line, func(w *world) {
				w.popped(c, 1)
				w.slots(c)[0], w.slots(w.s.Proc)[1] = c, sender
				w.pushed(sender, v)
			})
		}
		w, c, sender := called(t, line, 51, 53, 55)
		w.slots(c)[0] = c
		w.wantHalt(line+", where it has returned", errHome)
		for _, v := range []int{2, root, box, text, sem} {
			w.slots(c)[0] = v
			w.wantHalt(line+", to no context", errFrame)
		}
		w.slots(c)[0] = sender
		w.pushed(sender, full()[2:]...)
		w.wantHalt(line+", to one without room", errStack)
		w.popped(sender, 1)
		w.wantThen(line+", to one with the last room", func(w *world) {
			w.popped(c, 1)
			w.slots(c)[0], w.slots(w.s.Proc)[1] = c, sender
			w.pushed(sender, 55)
		})
	}
}

// TestP17_2_ReturnFromTheFirst: who has no sender ends its process.
func TestP17_2_ReturnFromTheFirst(t *testing.T) {
	for _, line := range []string{"return", "home"} {
		w, c, _ := called(t, line, 51, 53, 55)
		w.slots(c)[0] = 0
		p := w.s.Proc
		ended := func(w *world) {
			w.popped(c, 1)
			w.slots(c)[0], w.slots(p)[1] = c, 0
			w.s.Proc = 0
		}
		y := w.wantThen(line+", and nobody is ready", ended)
		y.wantHalt("then nobody runs", errIdle)
		q, r := w.process(c, 1), w.process(c, 0)
		w.s.Ready = w.waits(q, r)
		w.wantThen(line+", and others are ready", func(w *world) {
			ended(w)
			w.s.Proc, w.s.Ready, w.slots(q)[0] = q, r, 0
		})
		w.s.Ready = box
		w.wantHalt(line+", and there is no list", errList)
		w.slots(c)[0] = c
		w.wantHalt(line+", where it has returned, and there is no list", errHome)
	}
}

// TestP17_2_SenderZeroThatIsAContext: a sender 0 is none, whatever object 0 is.
func TestP17_2_SenderZeroThatIsAContext(t *testing.T) {
	w, c, sender := called(t, "return", 51, 53, 55)
	w.slots(c)[0] = 0
	w.s.Heap.Objs[0] = copyOf(w.s).Heap.Objs[sender/2]
	w.wantThen("a sender 0", func(w *world) {
		w.popped(c, 1)
		w.slots(c)[0], w.slots(w.s.Proc)[1] = c, 0
		w.s.Proc = 0
	})
	// Object 0 runs, and is its own sender: so it has returned.
	w.s.Heap.Objs[0] = copyOf(w.s).Heap.Objs[c/2]
	w.slots(w.s.Proc)[1] = 0
	w.wantHalt("object 0 has returned", errHome)
	wantContext(t, "object 0", w.s, 0, 0)
}

// fromBlock is a world in which a context runs whose home another one has sent: the context, who has sent it, its home, who has sent that.
func fromBlock(t *testing.T) (w *world, c, sender, home, outer int) {
	w, c, home = inBlock(t, "home", nil, 51, 53, 55)
	m := w.method(0, 0, 1, "self; self; return")
	sender, outer = w.context(m, box, 71), w.context(m, 7, 73, 75)
	w.slots(c)[0], w.slots(home)[0] = sender, outer
	return w, c, sender, home, outer
}

func TestP17_2_Home(t *testing.T) {
	w, c, _, home, outer := fromBlock(t)
	back := func(w *world) {
		w.popped(c, 1)
		w.slots(c)[0], w.slots(home)[0], w.slots(w.s.Proc)[1] = c, home, outer
		w.pushed(outer, 55)
	}
	w.wantThen("from the home", back)
	w.slots(c)[0] = c
	w.wantThen("where the context has returned itself", back)
	w.slots(c)[0] = 0
	w.wantThen("where nobody has sent the context", back)
	w.slots(home)[0] = home
	w.wantHalt("the home has returned", errHome)
	w.slots(home)[0] = 0
	w.wantThen("nobody has sent the home", func(w *world) {
		w.popped(c, 1)
		w.slots(c)[0], w.slots(home)[0], w.slots(w.s.Proc)[1], w.s.Proc = c, home, 0, 0
	})
	w.slots(home)[0] = c
	w.wantThen("the context itself has sent the home", func(w *world) {
		w.slots(c)[0], w.slots(home)[0] = c, home
	})
	w.slots(home)[0] = box
	w.wantHalt("the home's sender is no context", errFrame)
	for _, v := range []int{0, root, box, text, w.s.Proc} {
		w.slots(c)[5] = v
		w.wantHalt("the home is no context", errFrame)
		w.slots(c)[0] = c
		w.wantHalt("the home is no context, and it has returned", errFrame)
	}
}

// TestP17_2_ReturnInABlock: only the context itself is returned from, not its home.
func TestP17_2_ReturnInABlock(t *testing.T) {
	w, c, sender, home, _ := fromBlock(t)
	w.s.Heap.Objs[w.slots(w.slots(c)[3])[3]/2].Text = "\x0e\x00"
	w.slots(home)[0] = home
	w.wantThen("return", func(w *world) {
		w.popped(c, 1)
		w.slots(c)[0], w.slots(w.s.Proc)[1] = c, sender
		w.pushed(sender, 55)
	})
}

// TestP17_2_LiteralsOfTheContext: the context may hold the literals of its own method, and they change as it pops.
func TestP17_2_LiteralsOfTheContext(t *testing.T) {
	alias := func(lines string, area ...int) (*world, int) {
		w := newWorld(t)
		c := w.code(lines, nil, area...)
		m := w.slots(c)[3]
		// The lines name literals that the method had none of: it has the context's slots now.
		w.slots(m)[4] = c
		return w, c
	}
	w, c := alias("lit 1; return", 51, 53)
	w.wantThen("its own ip", func(w *world) { w.at(c, 1); w.pushed(c, 3) })
	// Literal 9 is what will be popped last, the receiver; literal 21 the last one of all.
	w, c = alias("send 9 1; return", 51, 53, 55, 57, box, 61)
	w.knows(57, w.method(0, 1, 1, "self; return"))
	w.wantThen("the selector is read ahead of what is popped", func(w *world) {
		w.popped(c, 2)
		w.at(c, 1)
		w.entered(c, w.slots(dict)[1], box, 0, 61)
	})
	area := full()
	copy(area[12:], []int{55, 57, box, above})
	w, c = alias("super 19 1; return", area...)
	w.knows(57, w.method(0, 1, 1, "self; return"))
	w.wantHalt("the last literal is read behind all that is popped", errClass)
	w.slots(c)[21] = 0
	w.popped(c, 1)
	w.slots(c)[21] = above
	w.wantThen("the last literal does not count in the area", func(w *world) {
		w.popped(c, 2)
		w.at(c, 1)
		w.entered(c, w.slots(dict)[1], 57, 0, box)
	})
}
