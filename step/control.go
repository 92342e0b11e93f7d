package step

import (
	"anamnesis/api"
	"anamnesis/frame"
	"anamnesis/look"
	"anamnesis/proc"
	"anamnesis/value"
	"slices"
)

// control is a row of the table: from how many arguments to how many there may be, and what tells whether it was done, or failed.
type control struct {
	least, most int
	do          func(*machine, message) bool
}

// controls has each control primitive at its number.
func controls() []control {
	return []control{
		40: {0, api.MaxArgs, (*machine).value},
		41: {0, 0, (*machine).fork},
		42: {0, 0, (*machine).wait},
		43: {0, 0, (*machine).signal},
		44: {0, 0, (*machine).yield},
		45: {0, 0, (*machine).suspend},
		46: {0, 0, (*machine).resume},
		47: {0, 0, (*machine).terminate},
		48: {1, 1, (*machine).setPriority},
		49: {0, 0, (*machine).input},
		50: {1, 1, (*machine).inputBelow},
		51: {0, 0, (*machine).stop},
		52: {1, api.MaxArgs, (*machine).perform},
	}
}

// control does control primitive num, unless there is none, or it fails.
func (m *machine) control(num int, x message) bool {
	l := controls()
	if num >= len(l) || l[num].do == nil {
		return false
	}
	c, n := l[num], len(x.args)
	return c.least <= n && n <= c.most && c.do(m, x)
}

// value goes into a block.
func (m *machine) value(x message) bool {
	c, ok := m.blockContext(x, m.c)
	if ok {
		m.goTo(c)
	}
	return ok
}

// fork makes a process of a block, that is ready.
func (m *machine) fork(x message) bool {
	c, ok := m.blockContext(x, nobody)
	if !ok {
		return false
	}
	p := m.made(api.ProcAt, nobody, c, m.slot(m.Proc, api.ProcPrio), nobody)
	m.makeReady(p)
	m.push(p)
	return true
}

// blockContext is a new context of the block that the message is sent to; false, if that is no block of so many arguments.
func (m *machine) blockContext(x message, sender int) (int, bool) {
	method, home, ok := m.block(x.to)
	// A home 0 is told apart, as to frame.New it stands for none.
	if !ok || home == nobody || !frame.May(m.Heap, home) {
		return 0, false
	}
	has, e := frame.Method(m.Heap, method)
	if e != api.OK || has.Args != len(x.args) {
		return 0, false
	}
	return m.newContext(sender, method, m.slot(home, api.CtxReceiver), home, x.args), true
}

// block is what a block holds: a method, a home.
func (m *machine) block(v int) (int, int, bool) {
	i, ok := value.At(v)
	// Who has slots is of Kind Pointers: the heap may be.
	if !ok || m.Heap.Objs[i].Class != ref(api.BlockAt) || len(m.Heap.Objs[i].Slots) != api.BlockSlots {
		return 0, 0, false
	}
	return m.slot(v, api.BlockMethod), m.slot(v, api.BlockHome), true
}

// wait lowers a semaphore's count; where that is 0, Proc waits there.
func (m *machine) wait(x message) bool {
	sem := x.to
	if !proc.Sem(m.Heap, sem) {
		return false
	}
	m.push(sem)
	if n, _ := value.N(m.slot(sem, api.SemCount)); n > 0 {
		m.setSlot(sem, api.SemCount, small(n-1))
		return true
	}
	h, first, e := proc.Append(m.Heap, m.slot(sem, api.SemFirst), m.Proc)
	m.keep(h, e)
	m.setSlot(sem, api.SemFirst, first)
	m.setSlot(m.Proc, api.ProcList, sem)
	m.change()
	return true
}

// signal makes the first one that waits for a semaphore ready; where nobody does, it's counted.
func (m *machine) signal(x message) bool {
	sem := x.to
	if !proc.Sem(m.Heap, sem) {
		return false
	}
	first := m.slot(sem, api.SemFirst)
	if first == nobody {
		return m.count(sem)
	}
	h, p, next, e := proc.Take(m.Heap, first)
	m.keep(h, e)
	m.setSlot(p, api.ProcList, nobody)
	m.makeReady(p)
	m.setSlot(sem, api.SemFirst, next)
	m.push(sem)
	return true
}

// count raises a semaphore's count, unless that is the greatest one.
func (m *machine) count(sem int) bool {
	n, _ := value.N(m.slot(sem, api.SemCount))
	v, ok := value.Int(n + 1)
	if !ok {
		return false
	}
	m.setSlot(sem, api.SemCount, v)
	m.push(sem)
	return true
}

// yield lets others run that are ready.
func (m *machine) yield(x message) bool {
	m.push(x.to)
	if m.Ready != nobody {
		m.makeReady(m.Proc)
		m.change()
	}
	return true
}

// suspend takes a process from where it runs, or waits.
func (m *machine) suspend(x message) bool {
	p := x.to
	if !proc.May(m.Heap, p) {
		return false
	}
	if p == m.Proc {
		m.push(p)
		m.change()
		return true
	}
	if !m.drop(p) {
		return false
	}
	m.push(p)
	return true
}

// drop takes the process p out of the list in which it waits; false, if it waits in none.
func (m *machine) drop(p int) bool {
	sem := m.slot(p, api.ProcList)
	if proc.Sem(m.Heap, sem) && m.stands(p, m.slot(sem, api.SemFirst)) {
		m.setSlot(sem, api.SemFirst, m.without(p, m.slot(sem, api.SemFirst)))
		m.setSlot(p, api.ProcList, nobody)
		return true
	}
	if !m.stands(p, m.Ready) {
		return false
	}
	m.Ready = m.without(p, m.Ready)
	return true
}

// stands tells whether p stands in the list from first on. Where there is no list, nobody does.
func (m *machine) stands(p, first int) bool {
	l, _ := proc.List(m.Heap, first)
	return slices.Contains(l, p)
}

// without drops p from the list from first on, and answers who is its first then.
func (m *machine) without(p, first int) int {
	h, left, e := proc.Drop(m.Heap, first, p)
	m.keep(h, e)
	return left
}

// waitsNowhere tells it of the process p, but not of the one that runs.
func (m *machine) waitsNowhere(p int) bool {
	return m.slot(p, api.ProcNext) == nobody && m.slot(p, api.ProcList) == nobody && !m.stands(p, m.Ready)
}

// resume makes a process ready that was suspended.
func (m *machine) resume(x message) bool {
	p := x.to
	if !proc.May(m.Heap, p) || p == m.Proc || !m.waitsNowhere(p) || !frame.May(m.Heap, m.slot(p, api.ProcCtx)) {
		return false
	}
	m.makeReady(p)
	m.push(p)
	return true
}

// terminate ends a process, wherever it runs, or waits.
func (m *machine) terminate(x message) bool {
	p := x.to
	if !proc.May(m.Heap, p) {
		return false
	}
	if p == m.Proc {
		m.goTo(nobody)
		m.change()
		return true
	}
	m.drop(p)
	m.setSlot(p, api.ProcCtx, nobody)
	m.push(p)
	return true
}

func (m *machine) setPriority(x message) bool {
	p, prio := x.to, x.args[0]
	n, ok := value.N(prio)
	if !proc.May(m.Heap, p) || !ok || n < 0 || n > api.MaxPrio || !m.waitsNowhere(p) {
		return false
	}
	m.setSlot(p, api.ProcPrio, prio)
	m.push(p)
	return true
}

func (m *machine) input(message) bool {
	m.push(small(m.draw()))
	return true
}

// inputBelow pushes what an input leaves, divided by a number.
func (m *machine) inputBelow(x message) bool {
	n, ok := value.N(x.args[0])
	if !ok || n <= 0 {
		return false
	}
	rest := m.draw() % n
	if rest < 0 {
		// Go's rest has the input's sign.
		rest += n
	}
	m.push(small(rest))
	return true
}

func (m *machine) stop(message) bool {
	fail(api.ErrStop)
	return true
}

// perform sends its first argument, with the others.
func (m *machine) perform(x message) bool {
	from := m.class(x.to)
	if _, _, e := look.Find(m.Heap, from, x.args[0]); e != api.OK {
		return false
	}
	m.send(message{sel: x.args[0], to: x.to, args: x.args[1:]}, from)
	return true
}
