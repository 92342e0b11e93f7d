package runner_test

import (
	"anamnesis/api"
	"anamnesis/step"
	"testing"
)

// nextByWords tells the message a second time, by what the objects' slots have.
func nextByWords(s api.State) (api.Sent, bool) {
	c, e := step.Context(s)
	if e != 0 || s.Halt != 0 || (s.Steps+1)%16 == 0 {
		return api.Sent{}, false
	}
	l := s.Heap.Objs[c/2].Slots
	m := s.Heap.Objs[l[3]/2].Slots
	ip, sp, temps := l[1]/2, l[2]/2, m[2]/2
	op, arg := s.Heap.Objs[m[3]/2].Text[2*ip], int(s.Heap.Objs[m[3]/2].Text[2*ip+1])
	if op != 8 && op != 9 {
		return api.Sent{}, false
	}
	pushed := l[6+temps : 6+sp]
	if len(pushed) <= arg%8 {
		return api.Sent{}, false
	}
	lits := append([]int(nil), s.Heap.Objs[m[4]/2].Slots...)
	if m[4] == c {
		lits[1] += 2 // ip, which the step raises ahead of reading
	}
	return api.Sent{Sel: lits[arg/8], Receiver: pushed[len(pushed)-1-arg%8]}, true
}

// untilByWords is step behind step, each looked at.
func untilByWords(s api.State, x api.Tape, sel, n int) (api.State, api.Tape, int, api.Errno) {
	if n < 0 || n > mostAtOnce {
		return api.State{}, api.Tape{}, 0, errArg
	}
	if _, _, e := step.Do(s, x); e != 0 {
		return api.State{}, api.Tape{}, 0, e
	}
	k := 0
	for k < n {
		var e api.Errno
		s, x, e = step.Do(s, x)
		if e != 0 {
			return api.State{}, api.Tape{}, 0, e
		}
		k++
		if m, ok := nextByWords(s); ok && m.Sel == sel {
			break
		}
	}
	return s, x, k, 0
}

// maker lays out a world of all sorts.
type maker struct {
	*world
	*spread
	lits  []int
	code  []api.Instr
	depth int
}

// known are selectors that a world knows: each with its primitive, and how many arguments.
func known() [][3]int {
	return [][3]int{{201, 0, 0}, {203, 0, 1}, {205, 1, 1}, {207, 40, 0}, {209, 41, 0}, {211, 43, 0}, {213, 44, 0}, {215, 49, 0}, {217, 0, 2}, {219, 13, 0}}
}

// selectors are those, and some that it does not know.
func selectors() []int {
	l := []int{22, 7, box}
	for _, x := range known() {
		l = append(l, x[0])
	}
	return l
}

// anyWorld is a state that may be, mostly one that goes on for some steps, and a tape.
func anyWorld(t *testing.T, s *spread) (api.State, api.Tape) {
	m := &maker{world: newWorld(t), spread: s}
	for _, x := range known() {
		if x[1] > 0 {
			m.knows(x[0], m.method(x[1], x[2], x[2], "self; return"))
		} else {
			m.knows(x[0], m.newBody(x[2]))
		}
	}
	if m.below(3) > 0 {
		m.knows(22, m.method(0, 1, 1, "self; return"))
	}
	var p []int
	for range 3 {
		c := m.context(m.newBody(0), m.of(box, below, 7))
		p = append(p, m.process(c, m.below(4)))
	}
	m.s.Proc, m.s.Ready = p[0], p[1]
	m.slots(p[1])[0] = p[2]
	m.s.Heap.Cap = min(256, len(m.s.Heap.Objs)+m.of(3, 20, 50, 90))
	m.s.Steps = m.below(100)
	for range m.below(4) {
		m.x.Rest = append(m.x.Rest, m.below(9)-4)
	}
	for range m.below(4) {
		m.x.Log = append(m.x.Log, m.below(9)-4)
	}
	m.s.Used = m.below(len(m.x.Log) + 1)
	return m.s, m.x
}

// newBody lays a method of so many arguments behind whose instructions mostly find what they need; its value.
func (m *maker) newBody(args int) int {
	temps := args + m.below(3)
	m.code, m.lits, m.depth = nil, nil, 0
	block := m.method(0, 0, 0, "self; return")
	for len(m.code) < 20 {
		m.some(block, temps)
	}
	m.code = append(m.code, api.Instr{Op: api.PushSelf}, api.Instr{Op: m.of(api.Return, api.Return, api.Home)})
	// The last literal is the class from whose super on a Super looks.
	from := above
	if m.below(20) == 0 {
		from = m.of(root, box)
	}
	return m.body(0, args, temps, m.code, append(m.lits, from)...)
}

func (m *maker) does(op, arg, pops, pushes int) {
	if m.depth >= pops || m.below(80) == 0 {
		m.code = append(m.code, api.Instr{Op: op, Arg: arg})
		m.depth = max(0, m.depth-pops) + pushes
	}
}

// lit is the place of a new literal.
func (m *maker) lit(v int) int {
	m.lits = append(m.lits, v)
	return len(m.lits) - 1
}

// some lays a few instructions behind.
func (m *maker) some(block, temps int) {
	switch k := m.below(12); {
	case k < 5 && len(m.lits) < 20:
		l := known()
		x := l[m.below(len(l))]
		if m.below(12) == 0 {
			x = [3]int{m.of(22, 7, box), 0, m.below(5)}
		}
		m.does(m.of(api.Send, api.Send, api.Send, api.Super), 8*m.lit(x[0])+x[2], x[2]+1, 1)
	case k == 5:
		m.does(m.of(api.Pop, api.Dup, api.PopField), 0, 1, 0)
	case k == 6 && temps > 0:
		m.does(api.PushTemp, m.below(temps), 0, 1)
	case k == 7 && temps > 0:
		m.does(api.PopTemp, m.below(temps), 1, 0)
	case k == 8:
		m.does(api.Block, m.lit(block), 0, 1)
	case k == 9:
		m.does(m.of(api.PushSelf, api.PushThis), 0, 0, 1)
	default:
		m.does(api.PushLit, m.lit(m.of(7, 9, 1, box, below, sem, text, 2, 4)), 0, 1)
	}
}

// spoilt is a world in which some numbers are others: it may still be a state, or not.
func spoilt(s *spread, a api.State) api.State {
	b := copyOf(a)
	for range 1 + s.below(3) {
		n := s.of(s.next(), s.of(signed, highest, -1, -2, greatest, greatest+1, 1<<21), s.below(80)-5, 2*s.below(60))
		o := &b.Heap.Objs[s.below(len(b.Heap.Objs))]
		switch s.below(14) {
		case 0:
			b.Proc = n
		case 1:
			b.Ready = n
		case 2:
			b.Halt = api.Errno(n)
		case 3:
			b.Steps = n
		case 4:
			b.Used = n
		case 5:
			b.Heap.Cap = n
		case 6:
			o.Class = n
		case 7:
			o.Kind = s.below(5) - 1
		case 8:
			o.Text += "\x08\x01"
		case 9:
			o.Slots = o.Slots[:s.below(len(o.Slots)+1)]
		default:
			if len(o.Slots) > 0 {
				o.Slots[s.below(len(o.Slots))] = n
			}
		}
	}
	return copyOf(b)
}
