package step

import (
	"anamnesis/api"
	"anamnesis/frame"
	"anamnesis/look"
	"anamnesis/prim"
)

// argRoom is by what the argument of a Send, or a Super, is divided: into a literal's place, and how many arguments.
const argRoom = 8

// message is a selector that is sent to a value, with arguments.
type message struct {
	sel, to int
	args    []int
}

// instruction does the one at which the context of Proc is.
func (m *machine) instruction() {
	c, e := Context(m.State)
	need(e)
	m.c = c
	ip, x, e := frame.At(m.Heap, c)
	need(e)
	if x.Op != api.Return && x.Op != api.Home && x.Op != api.Jump {
		m.jump(ip + 1)
	}
	m.obey(x.Op, x.Arg)
}

func (m *machine) obey(op, a int) {
	switch op {
	case api.PushSelf:
		m.push(m.receiver())
	case api.PushLit:
		m.push(m.literals()[a])
	case api.PushTemp:
		m.push(m.temp(m.c, a))
	case api.PushField:
		m.push(m.slot(m.receiver(), a))
	case api.PushOuter:
		m.push(m.temp(m.home(), a))
	case api.PushThis:
		m.push(m.c)
	case api.PopTemp:
		m.setTemp(m.c, a, m.pop())
	case api.PopField:
		m.setSlot(m.receiver(), a, m.pop())
	case api.PopOuter:
		m.setTemp(m.home(), a, m.pop())
	case api.Pop:
		m.pop()
	case api.Dup:
		m.double()
	case api.Send, api.Super:
		m.dispatch(op, a)
	case api.Jump:
		m.jump(a)
	case api.JumpTrue:
		m.jumpOn(ref(api.TrueAt), ref(api.FalseAt), a)
	case api.JumpFalse:
		m.jumpOn(ref(api.FalseAt), ref(api.TrueAt), a)
	case api.Block:
		m.push(m.newBlock(a))
	case api.Return:
		m.giveBack(m.c, m.pop())
	case api.Home:
		m.giveBackHome(m.pop())
	}
}

func (m *machine) push(v int) { m.keep(frame.Push(m.Heap, m.c, v)) }

func (m *machine) pop() int {
	h, v, e := frame.Pop(m.Heap, m.c)
	m.keep(h, e)
	return v
}

func (m *machine) double() {
	v := m.pop()
	m.push(v)
	m.push(v)
}

func (m *machine) jump(ip int) { m.keep(frame.Go(m.Heap, m.c, ip)) }

// jumpOn jumps, if what is popped is yes; it must be that, or no.
func (m *machine) jumpOn(yes, no, ip int) {
	switch m.pop() {
	case yes:
		m.jump(ip)
	case no:
	default:
		fail(api.ErrBool)
	}
}

func (m *machine) temp(c, k int) int { return got(frame.Temp(m.Heap, c, k)) }

func (m *machine) setTemp(c, k, v int) { m.keep(frame.SetTemp(m.Heap, c, k, v)) }

func (m *machine) receiver() int { return m.slot(m.c, api.CtxReceiver) }

func (m *machine) home() int { return m.slot(m.c, api.CtxHome) }

// literals are those of c's method as they are now: any object with slots may hold them, c too, so that they change as one pops.
func (m *machine) literals() []int {
	has, e := frame.Method(m.Heap, m.slot(m.c, api.CtxMethod))
	need(e)
	return has.Lits
}

// newBlock is a block of the method that is literal k.
func (m *machine) newBlock(k int) int {
	method := m.literals()[k]
	_, e := frame.Method(m.Heap, method)
	need(e)
	return m.made(api.BlockAt, method, m.home())
}

// goTo makes c the context of Proc.
func (m *machine) goTo(c int) { m.setSlot(m.Proc, api.ProcCtx, c) }

// enter goes to a new context of a method.
func (m *machine) enter(method, receiver, home int, args []int) {
	m.goTo(m.newContext(m.c, method, receiver, home, args))
}

func (m *machine) newContext(sender, method, receiver, home int, args []int) int {
	h, c, e := frame.New(m.Heap, sender, method, receiver, home, args)
	m.keep(h, e)
	return c
}

// giveBack returns v from the context c.
func (m *machine) giveBack(c, v int) {
	if !frame.May(m.Heap, c) {
		fail(api.ErrFrame)
	}
	sender := m.slot(c, api.CtxSender)
	if sender == c {
		fail(api.ErrHome)
	}
	m.markReturned(c)
	if sender == nobody {
		m.goTo(nobody)
		m.change()
		return
	}
	m.keep(frame.Push(m.Heap, sender, v))
	m.goTo(sender)
}

// giveBackHome returns v from c's home, and c is left for good.
func (m *machine) giveBackHome(v int) {
	home := m.home()
	if home != m.c {
		m.markReturned(m.c)
	}
	m.giveBack(home, v)
}

// markReturned makes c its own sender: so it's known that nothing is returned from it any more.
func (m *machine) markReturned(c int) { m.setSlot(c, api.CtxSender, c) }

// dispatch sends the literal that a tells, to what is popped.
func (m *machine) dispatch(op, a int) {
	sel := m.literals()[a/argRoom]
	args := make([]int, a%argRoom)
	for k := range args {
		args[len(args)-1-k] = m.pop()
	}
	x := message{sel: sel, to: m.pop(), args: args}
	if op == api.Super {
		m.send(x, m.above())
		return
	}
	m.send(x, m.class(x.to))
}

func (m *machine) class(v int) int { return got(look.Of(m.Heap, v)) }

// above is the super of the class that the last literal is.
func (m *machine) above() int {
	l := m.literals()
	class := l[len(l)-1]
	if !look.May(m.Heap, class) {
		fail(api.ErrClass)
	}
	return m.slot(class, 0)
}

// send does what the first class, from one on upwards, has for the message.
func (m *machine) send(x message, from int) {
	dnu := ref(api.DnuAt)
	method, _, e := look.Find(m.Heap, from, x.sel)
	if e == api.ErrNone && x.sel != dnu {
		x.sel, x.args = dnu, []int{x.sel}
		method, _, e = look.Find(m.Heap, from, dnu)
	}
	need(e)
	has, e := frame.Method(m.Heap, method)
	need(e)
	if has.Prim == 0 || !m.primitive(has.Prim, x) {
		m.enter(method, x.to, nobody, x.args)
	}
}

// primitive tells whether primitive num of the message's receiver and arguments was done, or failed.
func (m *machine) primitive(num int, x message) bool {
	if _, ok := prim.Args(num); !ok {
		return m.control(num, x)
	}
	h, v, e := prim.Do(m.Heap, num, x.to, x.args)
	if e == api.ErrPrim {
		return false
	}
	m.keep(h, e)
	m.push(v)
	return true
}
