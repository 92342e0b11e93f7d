package step_test

import (
	"fmt"
	"testing"
)

// TestP17_3_Send: the message's own context is entered, and what was popped is gone.
func TestP17_3_Send(t *testing.T) {
	for n := range 5 {
		for temps := n; temps < 9; temps += 3 {
			w := newWorld(t)
			m := w.method(0, n, temps, "self; return")
			w.knows(57, m)
			args := []int{61, text, 63, 2}[:n]
			c := w.code(fmt.Sprintf("send 1 %d; return", n), []int{59, 57, 55}, append([]int{51, 53, 7, below}, args...)...)
			w.wantThen(fmt.Sprint("send of ", n), func(w *world) {
				w.at(c, 1)
				w.popped(c, n+1)
				w.entered(c, m, below, 0, args...)
			})
			w.popped(c, 2)
			w.wantHalt(fmt.Sprint("send of too few, for ", n), errStack)
		}
	}
}

// TestP17_3_ToAll: a message is understood from the class of its receiver on, and the selector is a value like others.
func TestP17_3_ToAll(t *testing.T) {
	for _, v := range values() {
		for _, sel := range []int{1, 57, -1, 0, 2, box, text, root, 22} {
			w := newWorld(t)
			m := w.method(0, 0, 0, "self; return")
			w.knows(sel, m)
			c := w.code("send 0 0; return", []int{sel}, 51, 53, v)
			class := root
			if v%2 != 0 {
				class = 6
			}
			w.wantThen(fmt.Sprint(sel, " to ", v), func(w *world) { w.at(c, 1); w.popped(c, 1); w.entered(c, m, v, 0) })
			// SmallIntegers understand what their own class knows; others don't.
			w.s.Heap.Objs[3].Slots[1] = w.list(sel, w.method(0, 0, 1, "self; return"))
			own := w.slots(w.slots(6)[1])[1]
			if class == root {
				own = m
			}
			w.wantThen(fmt.Sprint(sel, " to ", v, ", where SmallIntegers know it"), func(w *world) { w.at(c, 1); w.popped(c, 1); w.entered(c, own, v, 0) })
		}
	}
}

func TestP17_3_NearestClass(t *testing.T) {
	w := newWorld(t)
	far, near := w.method(0, 0, 0, "self; return"), w.method(0, 0, 1, "self; return")
	d := w.list(57, near)
	w.slots(above)[1] = d
	w.knows(57, far)
	c := w.code("send 0 0; return", []int{57}, 51, 53, below)
	w.wantThen("to one below", func(w *world) { w.at(c, 1); w.popped(c, 1); w.entered(c, near, below, 0) })
	w.slots(c)[8] = box
	w.wantThen("to another", func(w *world) { w.at(c, 1); w.popped(c, 1); w.entered(c, far, box, 0) })
}

func TestP17_3_Super(t *testing.T) {
	w := newWorld(t)
	far, near := w.method(0, 1, 1, "self; return"), w.method(0, 1, 2, "self; return")
	w.slots(above)[1] = w.list(57, near)
	w.knows(57, far)
	c := w.code("super 0 1; return", []int{57, root, above}, 51, 53, below, 61)
	lits := w.slots(w.slots(w.slots(c)[3])[4])
	w.wantThen("from above", func(w *world) { w.at(c, 1); w.popped(c, 2); w.entered(c, far, below, 0, 61) })
	// It is the method's class that counts, and not the receiver's.
	w.slots(c)[8] = 7
	w.wantThen("from above, to another", func(w *world) { w.at(c, 1); w.popped(c, 2); w.entered(c, far, 7, 0, 61) })
	under := w.add(w.s.Heap.Objs[above/2])
	w.slots(under)[0] = above
	lits[2] = under
	w.wantThen("from between", func(w *world) { w.at(c, 1); w.popped(c, 2); w.entered(c, near, 7, 0, 61) })
	lits[2] = root
	w.wantHalt("from one that has none above", errClass)
	for _, v := range append(values(), dict, c) {
		if v != root && v != above {
			lits[2] = v
			w.wantHalt("from no class", errClass)
		}
	}
	// Object 12 stands in the slot 0 of what is no class.
	lits[2] = w.list(root, 7, 7)
	w.wantHalt("from no class, that has one above", errClass)
	lits[2] = w.list(root)
	w.wantHalt("from no class, of one slot", errClass)
	lits[2] = w.list(7, 0, 1)
	w.wantHalt("from no class, with a SmallInteger above", errClass)
	lits[2] = w.list(box, 0, 1)
	w.wantHalt("from a class that has no class above", errClass)
	w.popped(c, 1)
	w.wantHalt("nothing to pop, and no class", errStack)
}

// TestP17_3_SuperOfZero: object 0 may be a class, and then it understands.
func TestP17_3_SuperOfZero(t *testing.T) {
	w := newWorld(t)
	m := w.method(0, 0, 0, "self; return")
	c := w.code("super 0 0; return", []int{57, root}, 51, 53, below)
	w.wantHalt("object 0 is no class", errClass)
	w.s.Heap.Objs[0].Slots = []int{0, 0, 1}
	w.wantHalt("object 0 is a class without methods", errNone)
	w.s.Heap.Objs[0].Slots[1] = w.list(57, m)
	w.wantThen("object 0 is a class", func(w *world) { w.at(c, 1); w.popped(c, 1); w.entered(c, m, below, 0) })
}

// TestP17_3_NotUnderstood: then the selector is the one argument of object 11, from the same class on.
func TestP17_3_NotUnderstood(t *testing.T) {
	for n := range 5 {
		for _, op := range []string{"send", "super"} {
			w := newWorld(t)
			m := w.method(0, 1, 2, "self; return")
			args := []int{61, 63, 65, 67}[:n]
			c := w.code(fmt.Sprintf("%s 0 %d; return", op, n), []int{57, above}, append([]int{51, 53, below}, args...)...)
			what := fmt.Sprint(op, " of ", n)
			w.wantHalt(what+", nothing is understood", errNone)
			w.knows(22, m)
			entered := func(m int) func(w *world) {
				return func(w *world) {
					w.at(c, 1)
					w.popped(c, n+1)
					w.entered(c, m, below, 0, 57)
				}
			}
			w.wantThen(what, entered(m))
			near := w.method(0, 1, 1, "self; return")
			w.slots(above)[1] = w.list(22, near)
			if op == "send" {
				w.wantThen(what+", from the class on", entered(near))
			} else {
				w.wantThen(what+", from above on", entered(m))
			}
		}
	}
}

func TestP17_3_NotUnderstoodAtAll(t *testing.T) {
	w := newWorld(t)
	c := w.code("send 0 0; return", []int{22}, 51, 53, below)
	w.wantHalt("object 11 itself", errNone)
	m := w.method(0, 0, 0, "self; return")
	w.knows(22, m)
	w.wantThen("object 11 itself, understood", func(w *world) { w.at(c, 1); w.popped(c, 1); w.entered(c, m, below, 0) })
	lits := w.slots(w.slots(w.slots(c)[3])[4])
	lits[0] = 57
	w.wantHalt("whose method takes no argument", errFrame)
	w.slots(dict)[1] = w.method(0, 2, 2, "self; return")
	w.wantHalt("whose method takes two", errFrame)
	w.slots(dict)[1] = box
	w.wantHalt("that is no method", errFrame)
}

func TestP17_3_NoClass(t *testing.T) {
	w := newWorld(t)
	c := w.code("send 0 0; return", []int{57}, 51, 53, below)
	m := w.method(0, 0, 0, "self; return")
	w.knows(57, m)
	w.knows(22, w.method(0, 1, 1, "self; return"))
	w.s.Heap.Objs[below/2].Class = box
	w.wantHalt("a class that is none", errClass)
	w.s.Heap.Objs[below/2].Class = above
	w.slots(above)[0] = box
	w.wantHalt("one above that is none", errClass)
	// Object 11 would be understood before that; but who is sent the message is not known not to understand it.
	w.slots(above)[1] = w.list(22, w.method(0, 1, 1, "self; return"))
	w.wantHalt("one above that is none, and object 11 is understood", errClass)
	w.slots(above)[0] = above
	w.slots(above)[1] = w.list(22, m)
	w.wantHalt("a ring of classes, and a method of no argument", errFrame)
	w.slots(above)[1] = 0
	w.wantHalt("a ring of classes", errNone)
	w.slots(above)[1] = w.list(57, m)
	w.wantThen("a ring of classes, that understands", func(w *world) { w.at(c, 1); w.popped(c, 1); w.entered(c, m, below, 0) })
}

func TestP17_3_NoMethod(t *testing.T) {
	for _, v := range append(values(), dict) {
		w := newWorld(t)
		w.knows(57, v)
		w.code("send 0 0; return", []int{57}, 51, 53, below)
		w.wantHalt(fmt.Sprint("what is found is ", v), errFrame)
	}
	w := newWorld(t)
	m := w.method(1, 1, 1, "self; return")
	w.slots(m)[0] = 129
	w.knows(57, m)
	w.code("send 0 1; return", []int{57}, 51, 53, 7, 9)
	w.wantHalt("a primitive 64", errFrame)
}

// TestP17_3_UnlikeArguments: a method takes as many as it takes.
func TestP17_3_UnlikeArguments(t *testing.T) {
	for n := range 5 {
		for takes := range 5 {
			w := newWorld(t)
			m := w.method(0, takes, takes, "self; return")
			w.knows(57, m)
			args := []int{61, 63, 65, 67}[:n]
			c := w.code(fmt.Sprintf("send 0 %d; return", n), []int{57}, append([]int{51, 53, below}, args...)...)
			what := fmt.Sprint(n, " for ", takes)
			if n != takes {
				w.wantHalt(what, errFrame)
				continue
			}
			w.wantThen(what, func(w *world) { w.at(c, 1); w.popped(c, n+1); w.entered(c, m, below, 0, args...) })
			w.s.Heap.Cap = len(w.s.Heap.Objs)
			w.wantHalt(what+", and no room", errFull)
		}
	}
}

// TestP17_3_PrimitiveOrNot: a primitive that does not fail is all; behind one that fails the method's own instructions come.
func TestP17_3_PrimitiveOrNot(t *testing.T) {
	w := newWorld(t)
	m := w.method(1, 1, 3, "self; return")
	w.knows(57, m)
	c := w.code("send 0 1; return", []int{57}, 51, 53, 7, 9)
	w.wantThen("a sum", func(w *world) { w.at(c, 1); w.popped(c, 2); w.pushed(c, 15) })
	w.slots(c)[9] = greatest
	w.wantThen("a sum that is too great", func(w *world) { w.at(c, 1); w.popped(c, 2); w.entered(c, m, 7, 0, greatest) })
	w.slots(c)[9] = box
	w.wantThen("a sum of none", func(w *world) { w.at(c, 1); w.popped(c, 2); w.entered(c, m, 7, 0, box) })
	// The arguments are those of the message, and not those of the method.
	w.slots(m)[1] = 1
	w.slots(c)[9] = 9
	w.wantThen("a sum, of a method without arguments", func(w *world) { w.at(c, 1); w.popped(c, 2); w.pushed(c, 15) })
	w.slots(c)[9] = box
	w.wantHalt("a sum of none, of a method without arguments", errFrame)
	w.slots(m)[0] = 1
	w.slots(c)[9] = 9
	w.wantHalt("no primitive", errFrame)
}

// TestP17_3_PrimitiveNotUnderstood: object 11 may have a primitive, too, whose argument is the selector.
func TestP17_3_PrimitiveNotUnderstood(t *testing.T) {
	w := newWorld(t)
	w.knows(22, w.method(14, 1, 1, "self; return"))
	c := w.code("send 0 2; return", []int{57}, 51, 53, 57, 61, 63)
	w.wantThen("the selector is the receiver, too", func(w *world) { w.at(c, 1); w.popped(c, 3); w.pushed(c, 2) })
	w.slots(c)[8] = 59
	w.wantThen("the selector is another", func(w *world) { w.at(c, 1); w.popped(c, 3); w.pushed(c, 4) })
}
