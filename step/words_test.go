package step_test

import (
	"anamnesis/api"
	"anamnesis/frame"
	"anamnesis/heap"
	"anamnesis/look"
	"anamnesis/prim"
	"anamnesis/shape"
	"slices"
)

// words tells a step a second time, by the chapter's words one by one: on one heap, into which it writes, and each thing that may be wrong is answered, and not thrown. The layers below are asked what a method has, where a selector is found, and what primitives 1 to 27 do; contexts, processes, lists and tapes are told here again.
type words struct {
	s    api.State
	x    api.Tape
	c    int
	seen *tally
}

// tally counts what came up: instructions, primitives that were done and that failed, Halts.
type tally struct {
	ops, odd     [19]int
	done, failed [64]int
	halts        map[api.Errno]int
	notKnown     int
}

// outcomes of a primitive, beside errors.
const (
	isDone = 0
	fails  = -1
)

func doByWords(s api.State, x api.Tape, seen *tally) (api.State, api.Tape, api.Errno) {
	if shape.Check(s) != 0 || s.Steps == mostOfSteps {
		return api.State{}, api.Tape{}, errState
	}
	if len(x.Log)+len(x.Rest) > 1000 || s.Used > len(x.Log) {
		return api.State{}, api.Tape{}, errTape
	}
	for _, n := range append(slices.Clone(x.Log), x.Rest...) {
		if n >= 1<<30 || n < -1<<30 {
			return api.State{}, api.Tape{}, errTape
		}
	}
	w := words{copyOf(s), copyOfTape(x), 0, seen}
	if s.Halt == 0 {
		e := w.what()
		seen.halts[e]++
		if e != 0 {
			w = words{copyOf(s), copyOfTape(x), 0, seen}
			w.s.Halt = e
		}
	}
	w.s.Steps++
	return w.s, w.x, 0
}

func (w *words) what() api.Errno {
	switch {
	case w.s.Steps%16 == 15:
		n, e := w.draw()
		if e == 0 && (n-1)%2 == 0 && w.s.Proc != 0 && w.s.Ready != 0 {
			if e = w.ready(w.s.Proc); e == 0 {
				e = w.next()
			}
		}
		return e
	case w.s.Proc == 0 && w.s.Ready == 0:
		return errIdle
	case w.s.Proc == 0:
		return w.next()
	}
	return w.instr()
}

func (w *words) draw() (int, api.Errno) {
	if w.s.Used == len(w.x.Log) {
		if len(w.x.Log) == 1000 {
			return 0, errTape
		}
		n := 0
		if len(w.x.Rest) > 0 {
			n, w.x.Rest = w.x.Rest[0], w.x.Rest[1:]
		}
		w.x.Log = append(w.x.Log, n)
	}
	w.s.Used++
	return w.x.Log[w.s.Used-1], 0
}

func (w *words) obj(v int) *api.Obj { return &w.s.Heap.Objs[v/2] }

// is tells whether v is the ref of an object of that class and so many slots.
func (w *words) is(v, class, slots int) bool {
	return v%2 == 0 && w.obj(v).Kind == 0 && w.obj(v).Class == class && len(w.obj(v).Slots) == slots
}

func isUpTo(v, most int) bool { return v%2 != 0 && v > 0 && v/2 <= most }

func (w *words) isProcess(v int) bool {
	if !w.is(v, 14, 4) {
		return false
	}
	l := w.obj(v).Slots
	return l[0]%2 == 0 && l[1]%2 == 0 && isUpTo(l[2], 7) && l[3]%2 == 0
}

func (w *words) isSem(v int) bool {
	return w.is(v, 16, 2) && isUpTo(w.obj(v).Slots[0], greatest) && w.obj(v).Slots[1]%2 == 0
}

func (w *words) isContext(v int) bool {
	if !w.is(v, 12, 22) {
		return false
	}
	l := w.obj(v).Slots
	m, e := frame.Method(w.s.Heap, l[3])
	return e == 0 && l[0]%2 == 0 && isUpTo(l[1], len(m.Code)-1) && isUpTo(l[2], 16) && l[2]/2 >= m.Temps && l[5]%2 == 0
}

// list is who stands in it, and false, if there is none.
func (w *words) list(first int) ([]int, bool) {
	var l []int
	for ; first != 0; first = w.obj(first).Slots[0] {
		if !w.isProcess(first) || slices.Contains(l, first) {
			return nil, false
		}
		l = append(l, first)
	}
	return l, true
}

func (w *words) link(l []int) int {
	for i, p := range l {
		w.obj(p).Slots[0] = 0
		if i+1 < len(l) {
			w.obj(p).Slots[0] = l[i+1]
		}
	}
	if len(l) == 0 {
		return 0
	}
	return l[0]
}

func (w *words) ready(p int) api.Errno {
	l, ok := w.list(w.s.Ready)
	if !ok {
		return errList
	}
	if !w.isProcess(p) || slices.Contains(l, p) || w.obj(p).Slots[0] != 0 {
		return errProc
	}
	k := 0
	for k < len(l) && w.obj(l[k]).Slots[2] >= w.obj(p).Slots[2] {
		k++
	}
	w.s.Ready = w.link(slices.Insert(l, k, p))
	return 0
}

func (w *words) next() api.Errno {
	l, ok := w.list(w.s.Ready)
	if !ok {
		return errList
	}
	w.s.Proc = 0
	if len(l) > 0 {
		w.s.Proc = l[0]
		w.obj(l[0]).Slots[0] = 0
		w.s.Ready = w.link(l[1:])
	}
	return 0
}

func (w *words) push(c, v int) api.Errno {
	if !w.isContext(c) {
		return errFrame
	}
	l := w.obj(c).Slots
	if l[2] == 33 {
		return errStack
	}
	l[6+l[2]/2] = v
	l[2] += 2
	return 0
}

func (w *words) pop() (int, api.Errno) {
	l := w.obj(w.c).Slots
	m, _ := frame.Method(w.s.Heap, l[3])
	if l[2]/2 == m.Temps {
		return 0, errStack
	}
	l[2] -= 2
	v := l[6+l[2]/2]
	l[6+l[2]/2] = 0
	return v, 0
}

func (w *words) lits() []int { return w.obj(w.obj(w.obj(w.c).Slots[3]).Slots[4]).Slots }

// temp is where temporary k of c is.
func (w *words) temp(c, k int) (*int, api.Errno) {
	if !w.isContext(c) {
		return nil, errFrame
	}
	if m, _ := frame.Method(w.s.Heap, w.obj(c).Slots[3]); k >= m.Temps {
		return nil, errStack
	}
	return &w.obj(c).Slots[6+k], 0
}

// field is where slot k of the receiver is.
func (w *words) field(k int) (*int, api.Errno) {
	v := w.obj(w.c).Slots[4]
	switch {
	case v%2 != 0:
		return nil, errRef
	case w.obj(v).Kind != 0:
		return nil, errKind
	case k >= len(w.obj(v).Slots):
		return nil, errSlot
	}
	return &w.obj(v).Slots[k], 0
}

func (w *words) instr() api.Errno {
	if !w.isProcess(w.s.Proc) {
		return errProc
	}
	w.c = w.obj(w.s.Proc).Slots[1]
	if !w.isContext(w.c) {
		return errFrame
	}
	l := w.obj(w.c).Slots
	m, _ := frame.Method(w.s.Heap, l[3])
	x := m.Code[l[1]/2]
	if x.Op != 14 && x.Op != 15 && x.Op != 10 {
		l[1] += 2
	}
	e := w.op(x.Op, x.Arg)
	w.seen.ops[x.Op]++
	if e != 0 {
		w.seen.odd[x.Op]++
	}
	return e
}

func (w *words) op(op, a int) api.Errno {
	l := w.obj(w.c).Slots
	switch op {
	case api.PushSelf:
		return w.push(w.c, l[4])
	case api.PushLit:
		return w.push(w.c, w.lits()[a])
	case api.PushThis:
		return w.push(w.c, w.c)
	case api.PushTemp, api.PushOuter, api.PushField:
		at, e := w.place(op, a)
		if e != 0 {
			return e
		}
		return w.push(w.c, *at)
	case api.Block:
		return w.block(w.lits()[a])
	case api.Jump:
		l[1] = 2*a + 1
		return 0
	case api.Send, api.Super:
		return w.sends(op, a)
	}
	v, e := w.pop()
	if e != 0 {
		return e
	}
	switch op {
	case api.PopTemp, api.PopOuter, api.PopField:
		at, e := w.place(op, a)
		if e != 0 {
			return e
		}
		*at = v
	case api.Dup:
		w.push(w.c, v)
		return w.push(w.c, v)
	case api.JumpTrue, api.JumpFalse:
		if v != 2 && v != 4 {
			return errBool
		}
		if (v == 2) == (op == api.JumpTrue) {
			l[1] = 2*a + 1
		}
	case api.Return:
		return w.returns(w.c, v)
	case api.Home:
		if l[5] != w.c {
			l[0] = w.c
		}
		return w.returns(l[5], v)
	}
	return 0
}

func (w *words) place(op, a int) (*int, api.Errno) {
	switch op {
	case api.PushTemp, api.PopTemp:
		return w.temp(w.c, a)
	case api.PushOuter, api.PopOuter:
		return w.temp(w.obj(w.c).Slots[5], a)
	}
	return w.field(a)
}

func (w *words) block(m int) api.Errno {
	if _, e := frame.Method(w.s.Heap, m); e != 0 {
		return e
	}
	b, e := w.fresh(10, m, w.obj(w.c).Slots[5])
	if e != 0 {
		return e
	}
	return w.push(w.c, b)
}

func (w *words) fresh(class int, slots ...int) (int, api.Errno) {
	if len(w.s.Heap.Objs) == w.s.Heap.Cap {
		return 0, errFull
	}
	w.s.Heap.Last = heap.Next(w.s.Heap.Last)
	w.s.Heap.Objs = append(w.s.Heap.Objs, api.Obj{Class: class, Slots: slots, Hash: w.s.Heap.Last})
	return 2*len(w.s.Heap.Objs) - 2, 0
}

func (w *words) context(sender, m, receiver, home int, args []int) (int, api.Errno) {
	x, e := frame.Method(w.s.Heap, m)
	if e != 0 || x.Args != len(args) {
		return 0, errFrame
	}
	l := append([]int{sender, 1, 2*x.Temps + 1, m, receiver, home}, args...)
	c, e := w.fresh(12, append(l, make([]int, 22-len(l))...)...)
	if e == 0 && home == 0 {
		w.obj(c).Slots[5] = c
	}
	return c, e
}

func (w *words) enters(m, receiver, home int, args []int) api.Errno {
	c, e := w.context(w.c, m, receiver, home, args)
	if e == 0 {
		w.obj(w.s.Proc).Slots[1] = c
	}
	return e
}

func (w *words) returns(c, v int) api.Errno {
	if !w.isContext(c) {
		return errFrame
	}
	sender := w.obj(c).Slots[0]
	if sender == c {
		return errHome
	}
	w.obj(c).Slots[0] = c
	if sender == 0 {
		w.obj(w.s.Proc).Slots[1] = 0
		return w.next()
	}
	if e := w.push(sender, v); e != 0 {
		return e
	}
	w.obj(w.s.Proc).Slots[1] = sender
	return 0
}

func (w *words) sends(op, a int) api.Errno {
	sel := w.lits()[a/8]
	var args []int
	for range a % 8 {
		v, e := w.pop()
		if e != 0 {
			return e
		}
		args = append([]int{v}, args...)
	}
	v, e := w.pop()
	if e != 0 {
		return e
	}
	from := w.class(v)
	if op == api.Super {
		l := w.lits()
		if !look.May(w.s.Heap, l[len(l)-1]) {
			return errClass
		}
		from = w.obj(l[len(l)-1]).Slots[0]
	}
	return w.send(sel, v, args, from)
}

func (w *words) class(v int) int {
	if v%2 != 0 {
		return 6
	}
	return w.obj(v).Class
}

func (w *words) send(sel, v int, args []int, from int) api.Errno {
	m, _, e := look.Find(w.s.Heap, from, sel)
	if e == errNone && sel != 22 {
		w.seen.notKnown++
		args = []int{sel}
		m, _, e = look.Find(w.s.Heap, from, 22)
	}
	if e != 0 {
		return e
	}
	x, e := frame.Method(w.s.Heap, m)
	if e != 0 {
		return e
	}
	if x.Prim != 0 {
		switch e := w.prim(x.Prim, v, args); e {
		case fails:
			w.seen.failed[x.Prim]++
		default:
			w.seen.done[x.Prim]++
			return e
		}
	}
	return w.enters(m, v, 0, args)
}

func (w *words) prim(num, v int, args []int) api.Errno {
	if num < 28 {
		h, x, e := prim.Do(w.s.Heap, num, v, args)
		switch e {
		case 0:
			w.s.Heap = h
			return w.push(w.c, x)
		case 130:
			return fails
		}
		return e
	}
	takes, ok := map[int]int{40: len(args), 48: 1, 50: 1, 52: max(1, len(args))}[num]
	if len(args) != takes || !ok && (num < 41 || num > 51) {
		return fails
	}
	switch num {
	case 40, 41:
		return w.opens(num, v, args)
	case 42, 43:
		if !w.isSem(v) {
			return fails
		}
		return w.semaphore(num, v)
	case 45, 46, 47, 48:
		if !w.isProcess(v) {
			return fails
		}
		return w.process(num, v, args)
	case 44:
		w.push(w.c, v)
		if w.s.Ready == 0 {
			return isDone
		}
		if e := w.ready(w.s.Proc); e != 0 {
			return e
		}
		return w.next()
	case 49, 50:
		return w.input(args)
	case 51:
		return errStop
	}
	if _, _, e := look.Find(w.s.Heap, w.class(v), args[0]); e != 0 {
		return fails
	}
	return w.send(args[0], v, args[1:], w.class(v))
}

func (w *words) opens(num, v int, args []int) api.Errno {
	if !w.is(v, 10, 2) {
		return fails
	}
	m, home := w.obj(v).Slots[0], w.obj(v).Slots[1]
	x, e := frame.Method(w.s.Heap, m)
	if e != 0 || x.Args != len(args) || home == 0 || !w.isContext(home) {
		return fails
	}
	if num == 40 {
		return w.enters(m, w.obj(home).Slots[4], home, args)
	}
	c, e := w.context(0, m, w.obj(home).Slots[4], home, args)
	if e != 0 {
		return e
	}
	p, e := w.fresh(14, 0, c, w.obj(w.s.Proc).Slots[2], 0)
	if e != 0 {
		return e
	}
	if e = w.ready(p); e != 0 {
		return e
	}
	return w.push(w.c, p)
}

func (w *words) semaphore(num, v int) api.Errno {
	l := w.obj(v).Slots
	q, ok := w.list(l[1])
	switch {
	case num == 42 && l[0] > 1:
		l[0] -= 2
		return w.push(w.c, v)
	case num == 43 && l[1] == 0 && l[0] == greatest:
		return fails
	case num == 43 && l[1] == 0:
		l[0] += 2
		return w.push(w.c, v)
	case !ok:
		return errList
	case num == 43:
		l[1] = w.link(q[1:])
		w.obj(q[0]).Slots[0], w.obj(q[0]).Slots[3] = 0, 0
		w.push(w.c, v)
		return w.ready(q[0])
	}
	w.push(w.c, v)
	p := w.s.Proc
	if w.obj(p).Slots[0] != 0 || slices.Contains(q, p) {
		return errProc
	}
	l[1] = w.link(append(q, p))
	w.obj(p).Slots[3] = v
	return w.next()
}

// waits is what holds the first one of those with whom p waits, and these; nothing, if p waits nowhere.
func (w *words) waits(p int) (*int, []int) {
	if s := w.obj(p).Slots[3]; w.isSem(s) {
		if l, _ := w.list(w.obj(s).Slots[1]); slices.Contains(l, p) {
			return &w.obj(s).Slots[1], l
		}
	}
	if l, _ := w.list(w.s.Ready); slices.Contains(l, p) {
		return &w.s.Ready, l
	}
	return nil, nil
}

func (w *words) process(num, p int, args []int) api.Errno {
	l := w.obj(p).Slots
	first, line := w.waits(p)
	ready, _ := w.list(w.s.Ready)
	free := l[0] == 0 && l[3] == 0 && !slices.Contains(ready, p)
	switch {
	case num == 46 && (!free || p == w.s.Proc || !w.isContext(l[1])), num == 48 && (!free || !isUpTo(args[0], 7)):
		return fails
	case num == 46:
		w.push(w.c, p)
		return w.ready(p)
	case num == 48:
		l[2] = args[0]
		return w.push(w.c, p)
	case p == w.s.Proc && num == 45:
		w.push(w.c, p)
		return w.next()
	case p == w.s.Proc:
		l[1] = 0
		return w.next()
	case line == nil && num == 45:
		return fails
	case line != nil:
		l[0] = 0
		k := slices.Index(line, p)
		*first = w.link(slices.Delete(line, k, k+1))
		if first != &w.s.Ready {
			l[3] = 0
		}
	}
	if num == 47 {
		l[1] = 0
	}
	return w.push(w.c, p)
}

func (w *words) input(args []int) api.Errno {
	if len(args) == 0 {
		n, e := w.draw()
		if e != 0 {
			return e
		}
		return w.push(w.c, 2*n+1)
	}
	if args[0]%2 == 0 || args[0] < 2 {
		return fails
	}
	n, e := w.draw()
	if e != 0 {
		return e
	}
	by := args[0] / 2
	return w.push(w.c, 2*((n%by+by)%by)+1)
}
