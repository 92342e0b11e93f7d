package step_test

import (
	"anamnesis/api"
	"anamnesis/code"
	"anamnesis/heap"
	"anamnesis/shape"
	"anamnesis/step"
	"fmt"
	"slices"
	"testing"
)

// known is a selector, and what the method that goes with it has.
type known struct{ sel, prim, args int }

// maker lays out a world of all sorts.
type maker struct {
	*world
	*spread
	body   int // the instructions `self` and `return`, packed
	knows  []known
	values map[string][]int
	all    []int
	bodies []int
	lits   []int
	code   []api.Instr
	depth  int
}

// anyWorld is a state that may be, mostly one that goes on for some steps, and a tape.
func anyWorld(t *testing.T, s *spread) (api.State, api.Tape) {
	w := newWorld(t)
	m := &maker{world: w, spread: s, values: map[string][]int{}}
	m.body = w.add(api.Obj{Kind: 1, Text: "\x00\x00\x0e\x00"})
	m.things()
	m.selectors()
	for range 5 {
		m.newBody()
	}
	m.contexts()
	w.s.Heap.Cap = min(256, len(w.s.Heap.Objs)+s.of(2, 8, 20, 40, 40, 40))
	w.s.Steps = s.below(100)
	for range s.below(4) {
		w.x.Rest = append(w.x.Rest, s.below(9)-4)
	}
	for range s.below(4) {
		w.x.Log = append(w.x.Log, s.below(9)-4)
	}
	w.s.Used = s.below(len(w.x.Log) + 1)
	if s.below(40) == 0 {
		w.x.Log, w.x.Rest = make([]int, 1000), nil
		w.s.Used = 999 + s.below(2)
	}
	return w.s, w.x
}

func (m *maker) has(kind string, v int) int {
	m.values[kind] = append(m.values[kind], v)
	m.all = append(m.all, v)
	return v
}

// things are what is not code.
func (m *maker) things() {
	for _, v := range values() {
		m.all = append(m.all, v)
	}
	for _, n := range []int{0, 0, 1, greatest / 2} {
		m.has("sem", m.add(api.Obj{Class: 16, Slots: []int{2*n + 1, 0}}))
	}
	for range 7 {
		m.has("process", m.process(0, m.below(4)))
	}
	for range 4 {
		m.has("block", m.add(api.Obj{Class: 10, Slots: []int{0, 0}}))
	}
	for _, n := range []int{0, 1, 2, 3, 5, 7, 8} {
		m.has("number", 2*n+1)
	}
	m.has("class", root)
	m.has("class", above)
	m.has("box", box)
	for _, v := range []int{box, box, box, below, 7, text} {
		m.has("receiver", v)
	}
}

// selectors are understood by the root class; some of them are those of primitives.
func (m *maker) selectors() {
	for k := range 30 {
		num := m.of(0, 0, 0, m.below(64), 1+m.below(27), 40, 40, 41, 42, 43, 44, 45, 45, 46, 47, 48, 49, 50, 52, 40+m.below(13), 40+m.below(13), 40+m.below(13))
		n := map[int]int{48: 1, 50: 1, 52: 1 + m.below(3), 40: m.below(3), 0: m.below(3), 1: 1, 2: 1, 6: 1, 8: 1, 9: 2, 16: 1}[num]
		if m.below(8) == 0 {
			n = m.below(5)
		}
		x := known{201 + 2*k, num, n}
		if k == 29 && m.below(3) > 0 {
			x = known{22, m.of(0, 0, 40, 51, 14), 1}
		}
		v := m.add(api.Obj{Slots: []int{2*num + 1, 2*n + 1, 2*n + 1 + 2*m.below(2), m.body, dict}})
		if num == 0 {
			m.has("method", v)
		}
		m.knows = append(m.knows, x)
		m.knowsAt(dict, x.sel, v)
	}
	if m.below(2) == 0 {
		x := m.knows[m.below(30)]
		m.slots(above)[1] = m.list(x.sel, m.add(api.Obj{Slots: []int{1, 2*x.args + 1, 2*x.args + 1, m.body, dict}}))
	}
}

// pick is one of a kind, or anything.
func (m *maker) pick(kind string) int {
	if l := m.values[kind]; len(l) > 0 && m.below(9) > 0 {
		return m.of(l...)
	}
	return m.of(m.all...)
}

// lit is the place of a literal.
func (m *maker) lit(v int) int {
	k := slices.Index(m.lits, v)
	if k < 0 {
		k = len(m.lits)
		m.lits = append(m.lits, v)
	}
	return k
}

func (m *maker) does(op, arg, pops, pushes int) {
	if m.depth >= pops || m.below(30) == 0 {
		m.code = append(m.code, api.Instr{Op: op, Arg: arg})
		m.depth = max(0, m.depth-pops) + pushes
	}
}

// newBody lays a method behind whose instructions mostly find what they need.
func (m *maker) newBody() {
	temps, args := 1+m.below(3), m.of(0, 0, 0, 1)
	m.code, m.lits, m.depth = nil, nil, 0
	for len(m.code) < 26 && len(m.lits) < 26 {
		m.some(temps)
	}
	end := m.of(api.Return, api.Return, api.Home, api.Home, api.Jump)
	if end == api.Jump {
		m.code = append(m.code, api.Instr{Op: end})
	} else {
		m.code = append(m.code, api.Instr{Op: api.PushSelf}, api.Instr{Op: end})
	}
	for i := range m.code {
		// Jumps lead on, and not too far, so that there are other steps, too.
		if x := &m.code[i]; x.Op == api.JumpTrue || x.Op == api.JumpFalse {
			x.Arg = min(i+1+m.below(3), len(m.code)-1)
		}
	}
	packed, e := code.Pack(m.code)
	if e != 0 {
		m.Fatal(e)
	}
	text := m.add(api.Obj{Kind: 1, Text: packed})
	lits := m.list(append(m.lits, m.of(root, above, above, above, box))...)
	v := m.add(api.Obj{Slots: []int{1, 2*args + 1, 2*temps + 1, text, lits}})
	m.bodies = append(m.bodies, v)
	if args == 0 {
		m.has("method", v)
	}
}

// some lays a few instructions behind.
func (m *maker) some(temps int) {
	switch k := m.below(40); {
	case k < 18:
		m.message()
	case k < 21:
		m.does(m.of(api.Pop, api.Dup, api.PopTemp, api.PopField, api.PopOuter), 0, 1, 0)
	case k < 22 && m.depth > 0:
		m.does(api.Dup, 0, 1, 2)
	case k < 24:
		m.does(m.of(api.PopTemp, api.PopOuter), m.below(temps), 1, 0)
	case k < 25:
		m.does(api.PopField, m.below(3), 1, 0)
	case k < 27:
		m.does(api.PushLit, m.lit(m.of(2, 4, 2, 4, 2, 4, 2, 4, 0)), 0, 1)
		m.does(m.of(api.JumpTrue, api.JumpFalse), 0, 1, 0)
	case k < 28:
		m.does(api.Block, m.lit(m.pick("method")), 0, 1)
	case k < 29 && m.depth > 0 && m.below(4) == 0:
		m.does(m.of(api.Return, api.Home), 0, 1, 0)
	case k < 30:
		m.does(api.PushThis, 0, 0, 1)
	case k < 32:
		m.does(api.PushField, m.of(0, 1, 0, 1, 0, 1, 2), 0, 1)
	case k < 35:
		m.does(m.of(api.PushTemp, api.PushOuter), m.below(temps+m.below(9)/8), 0, 1)
	default:
		m.does(m.of(api.PushSelf, api.PushLit), 0, 0, 1)
		if x := &m.code[len(m.code)-1]; x.Op == api.PushLit {
			x.Arg = m.lit(m.of(m.all...))
		}
	}
	for i := range m.code {
		if x := &m.code[i]; x.Op == api.PushTemp && x.Arg >= temps || x.Op == api.PopTemp && x.Arg >= temps {
			x.Arg = 0
		}
	}
}

// message lays behind what sends a selector to what it is mostly sent to.
func (m *maker) message() {
	x := m.knows[m.below(len(m.knows))]
	kind := map[int]string{40: "block", 41: "block", 42: "sem", 43: "sem", 45: "process", 46: "process", 47: "process", 48: "process", 1: "number", 2: "number", 6: "number", 8: "box", 9: "box", 11: "class", 52: m.oneOf("process", "sem", "block", "number")}[x.prim]
	if len(m.code) > 18 {
		return
	}
	if kind == "block" && m.below(3) == 0 {
		m.does(api.Block, m.lit(m.pick("method")), 0, 1)
	} else if kind == "process" && m.below(2) == 0 {
		m.does(api.PushLit, m.lit(m.s.Proc), 0, 1)
	} else {
		m.does(api.PushLit, m.lit(m.pick(kind)), 0, 1)
	}
	n := x.args
	if m.below(30) == 0 {
		n = m.below(5)
	}
	for k := range n {
		v := m.pick("number")
		if x.prim == 52 && k == 0 {
			v = m.knows[m.below(len(m.knows))].sel
		}
		m.does(api.PushLit, m.lit(v), 0, 1)
	}
	sel := x.sel
	if m.below(20) == 0 {
		sel = m.of(7, 22, box)
	}
	if k := m.lit(sel); k < 32 {
		m.does(m.of(api.Send, api.Send, api.Send, api.Send, api.Super), 8*k+n, n+1, 1)
	}
}

func (m *maker) oneOf(l ...string) string { return l[m.below(len(l))] }

// contexts lays contexts behind, and puts processes to them, and to lists.
func (m *maker) contexts() {
	var l []int
	for k := range 8 {
		c := m.context(m.bodies[k%len(m.bodies)], m.pick("receiver"), m.pick("number"), m.pick("number"), m.pick("number"))
		method := m.slots(m.slots(c)[3])
		m.slots(c)[2] = method[2] + 2*m.below(2)
		if m.below(3) == 0 {
			m.at(c, len(m.s.Heap.Objs[method[3]/2].Text)/2-2)
		}
		if k > 0 && m.below(2) == 0 {
			m.slots(c)[0] = l[m.below(k)]
		} else if m.below(6) == 0 {
			m.slots(c)[0] = c
		}
		if k > 0 && m.below(3) == 0 {
			m.slots(c)[5] = l[m.below(k)]
		}
		l = append(l, m.has("context", c))
	}
	for _, b := range m.values["block"] {
		m.slots(b)[0], m.slots(b)[1] = m.pick("method"), m.pick("context")
	}
	p := m.values["process"]
	for k, v := range p {
		m.slots(v)[1] = l[len(l)-1-k%8]
	}
	m.s.Proc = p[0]
	if m.below(20) == 0 {
		m.s.Proc = 0
	}
	k := 1 + m.below(3)
	if k > 1 {
		m.s.Ready = m.waits(p[1:k]...)
	}
	if at := p[k : k+m.below(3)]; len(at) > 0 {
		s := m.of(m.values["sem"]...)
		m.slots(s)[1] = m.waits(at...)
		for _, v := range at {
			m.slots(v)[3] = s
		}
	}
}

// spoilt is a state in which a slot, or a number, is another: one that still may be.
func spoilt(s *spread, a api.State) api.State {
	b := copyOf(a)
	n := len(b.Heap.Objs)
	switch s.below(12) {
	case 0:
		b.Proc = 2 * s.below(n)
	case 1:
		b.Ready = 2 * s.below(n)
	case 2:
		b.Heap.Objs[s.below(n)].Class = s.of(root, 10, 12, 14, 16, 2*s.below(n))
	case 3:
		b.Heap.Objs[0] = b.Heap.Objs[s.below(n)]
	}
	for range 1 + s.below(4) {
		o := b.Heap.Objs[12+s.below(n-12)]
		if c := b.Heap.Objs[b.Proc/2].Slots; len(c) > 1 && s.below(6) == 0 {
			o = b.Heap.Objs[max(0, c[1])/2%n]
		}
		if len(o.Slots) > 0 {
			o.Slots[s.below(min(len(o.Slots), 9))] = s.of(2*s.below(n), 2*s.below(n), 2*s.below(40)-9, 0, 1)
		}
	}
	return copyOf(b)
}

// wantWords holds steps against the chapter's words, till it stands still, and one more.
func wantWords(t *testing.T, what string, s api.State, x api.Tape, n int, seen *tally) (api.State, api.Tape) {
	t.Helper()
	for i := range n {
		a, y, e := doByWords(s, x, seen)
		wantDo(t, fmt.Sprint(what, ", step ", i), s, x, a, y, e)
		if e != 0 || s.Halt != 0 {
			break
		}
		if shape.Check(a) != 0 {
			t.Fatalf("%s, step %d: behind it the state may not be", what, i)
		}
		s, x = a, y
	}
	return s, x
}

// TestP17_5_ManyWorlds holds steps of many worlds against the chapter's words, and each state against what may be.
func TestP17_5_ManyWorlds(t *testing.T) {
	s := spread(7)
	seen := &tally{halts: map[api.Errno]int{}}
	for k := range 2500 {
		a, x := anyWorld(t, &s)
		if k%3 == 2 {
			a = spoilt(&s, a)
		}
		if !heap.May(a.Heap) {
			t.Fatalf("world %d may not be", k)
		}
		wantWords(t, fmt.Sprint("world ", k), a, x, 50, seen)
	}
	for op, n := range seen.ops {
		if n < 100 || seen.odd[op] == 0 && op != api.Jump && op != api.PushThis {
			t.Errorf("instruction %d: done %d times, failed %d", op, n, seen.odd[op])
		}
	}
	for num := 1; num < 64; num++ {
		if num >= 40 && num <= 52 && (seen.done[num] < 20 || seen.failed[num] < 10 && num != 44 && num != 49 && num != 51) {
			t.Errorf("primitive %d: done %d times, failed %d", num, seen.done[num], seen.failed[num])
		}
		if seen.done[num]+seen.failed[num] == 0 {
			t.Errorf("primitive %d was not asked for", num)
		}
	}
	for _, e := range []api.Errno{0, errFull, errRef, errSlot, errKind, errClass, errNone, errFrame, errStack, errProc, errList, errTape, errIdle, errBool, errHome, errStop} {
		if seen.halts[e] < 5 {
			t.Errorf("halt %d came %d times", e, seen.halts[e])
		}
	}
	if seen.notKnown < 50 {
		t.Errorf("%d messages were not understood", seen.notKnown)
	}
}

// TestP17_5_StandsStill: what stands still stays as it is, and its steps count.
func TestP17_5_StandsStill(t *testing.T) {
	s := spread(8)
	for range 100 {
		a, x := anyWorld(t, &s)
		for i := 0; i < 300 && a.Halt == 0; i++ {
			var e api.Errno
			if a, x, e = step.Do(a, x); e != 0 {
				t.Fatal(e)
			}
		}
		for range 40 {
			if a.Halt == 0 {
				break
			}
			b := copyOf(a)
			b.Steps++
			wantDo(t, "it stands still", a, x, b, x, 0)
			a = b
		}
	}
}
