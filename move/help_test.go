package move

import (
	"anamnesis/api"
	"anamnesis/mark"
	"fmt"
	"slices"
	"strings"
	"testing"
)

// The bounds stand here as numbers of their own, so that a test doesn't follow the code into a mistake.
const (
	greatest  = 2147483647  // the value of the greatest SmallInteger
	least     = -2147483647 // of the least one
	lastRef   = 2097150     // of the last object that a ref may be of
	afterRefs = 1048576     // the number behind that object's
	signed    = -1 << 63
	highest   = 1<<63 - 1
)

// few is a heap with objects of each kind, that hold themselves, one another, or nothing.
func few() api.Heap {
	return api.Heap{Cap: 13, Last: 77, Objs: []api.Obj{
		0:  {Hash: 5},
		1:  {Class: 2, Slots: []int{2, 7, 2}, Hash: 6},
		2:  {Class: 6, Kind: 1, Text: "a\x00\x06\xff", Hash: 9},
		3:  {Class: 6},
		4:  {Class: 8, Kind: 2, Bits: 8},
		5:  {Slots: []int{12, -1}},
		6:  {Slots: []int{least, 10, greatest}},
		7:  {Class: 6, Slots: []int{20, 1, 8}, Hash: 1073741823},
		8:  {Class: 16, Slots: []int{21, 9, -3}},
		9:  {Class: 20, Kind: 1},
		10: {Class: 18, Kind: 2, Bits: 9221120237041090561},
	}}
}

// turned is few, but for what do does to it.
func turned(do func(h *api.Heap)) api.Heap {
	h := few()
	do(&h)
	return h
}

// noValues are none of few's.
func noValues() []int {
	return []int{22, 24, 26, 512, lastRef, lastRef + 2, -2, -4, greatest + 1, greatest + 2, least - 1, least - 2, 1 << 32, 1<<32 + 1, signed, signed + 1, highest - 1, highest}
}

// told is a heap and lists as a text, in which an empty list and a nil one are the same.
func told(h api.Heap, lists ...[]int) string { return fmt.Sprintf("%+v %v", h, lists) }

// all are the numbers below n.
func all(n int) []int {
	var l []int
	for i := range n {
		l = append(l, i)
	}
	return l
}

// refs are the values of the objects with those numbers.
func refs(numbers []int) []int {
	var l []int
	for _, i := range numbers {
		l = append(l, 2*i)
	}
	return l
}

func live(t *testing.T, h api.Heap, roots []int) []int {
	t.Helper()
	l, e := mark.Live(h, roots)
	if e != api.OK {
		t.Fatalf("mark.Live from %v: error %d", roots, e)
	}
	return l
}

// lessOf is a table by the chapter's words: for each object that is reached those are counted that have a less number.
func lessOf(n int, reached []int) []int {
	table := make([]int, n)
	for i := range table {
		table[i] = -1
		if slices.Contains(reached, i) {
			table[i] = len(slices.DeleteFunc(slices.Clone(reached), func(k int) bool { return k >= i }))
		}
	}
	return table
}

// renamed are the values at their new numbers: of objects where they stand among those that are reached.
func renamed(reached, l []int) []int {
	var to []int
	for _, v := range l {
		if v%2 == 0 {
			v = 2 * slices.Index(reached, v/2)
		}
		to = append(to, v)
	}
	return to
}

// left is the heap of those that are reached, taken one by one, and written anew.
func left(h api.Heap, reached []int) api.Heap {
	g := api.Heap{Cap: h.Cap, Last: h.Last}
	for _, i := range reached {
		o := h.Objs[i]
		class := renamed(reached, []int{o.Class})[0]
		g.Objs = append(g.Objs, api.Obj{Class: class, Kind: o.Kind, Slots: renamed(reached, o.Slots), Text: o.Text, Bits: o.Bits, Hash: o.Hash})
	}
	return g
}

// wantMoved holds Table and Compact against what is to come of them, and looks whether the arguments stay as they were.
func wantMoved(t *testing.T, h api.Heap, roots, table []int, want api.Heap, wantRoots []int) {
	t.Helper()
	before := told(h, roots)
	if got, e := Table(h, roots); e != api.OK || !slices.Equal(got, table) {
		t.Fatalf("Table from %v: %v, %d; want %v", roots, got, e, table)
	}
	g, to, e := Compact(h, roots)
	if e != api.OK || told(g, to) != told(want, wantRoots) {
		t.Fatalf("Compact from %v:\n%s, %d; want\n%s", roots, told(g, to), e, told(want, wantRoots))
	}
	if after := told(h, roots); after != before {
		t.Fatalf("the arguments have changed to\n%s; they were\n%s", after, before)
	}
}

// wantByWords holds both against what the chapter's words tell of any heap.
func wantByWords(t *testing.T, h api.Heap, roots []int) {
	t.Helper()
	reached := live(t, h, roots)
	wantMoved(t, h, roots, lessOf(len(h.Objs), reached), left(h, reached), renamed(reached, roots))
}

// wantNothing holds Table and Compact against an error.
func wantNothing(t *testing.T, what string, h api.Heap, roots []int, want api.Errno) {
	t.Helper()
	before := told(h, roots)
	if l, e := Table(h, roots); e != want || len(l) != 0 {
		t.Fatalf("%s: Table from %v: %v, %d; want error %d and nothing", what, roots, l, e, want)
	}
	if g, to, e := Compact(h, roots); e != want || told(g, to) != told(api.Heap{}, nil) {
		t.Fatalf("%s: Compact from %v: %s, %d; want error %d and nothing", what, roots, told(g, to), e, want)
	}
	if told(h, roots) != before {
		t.Fatalf("%s: the arguments have changed", what)
	}
}

// wantValue holds Value against what is to come of it, and looks whether the table stays as it was.
func wantValue(t *testing.T, table []int, v, want int, wantOk bool) {
	t.Helper()
	if x, ok := Value(table, v); x != want || ok != wantOk {
		t.Fatalf("Value of %d: %d, %v; want %d, %v", v, x, ok, want, wantOk)
	}
}

// spread is a row of numbers all over, the same in each run.
type spread uint32

func (s *spread) below(n int) int {
	*s = *s*1664525 + 1013904223
	return int(uint64(*s) * uint64(n) >> 32)
}

// values are some SmallIntegers', and refs of n objects.
func (s *spread) values(most, n int) []int {
	var l []int
	for range s.below(most) {
		if s.below(3) == 0 {
			l = append(l, 2*s.below(4*n)-4*n+1)
		} else {
			l = append(l, 2*s.below(n))
		}
	}
	return l
}

// heap is one of n objects. Classes lie near their objects, so that not all is reached from everywhere.
func (s *spread) heap(n int) api.Heap {
	h := api.Heap{Cap: n + s.below(3), Last: s.below(1 << 30), Objs: make([]api.Obj, n)}
	for i := range h.Objs {
		o := api.Obj{Class: 2 * min(n-1, max(0, i+s.below(7)-3)), Kind: s.below(3), Hash: s.below(1 << 30)}
		switch o.Kind {
		case 0:
			o.Slots = s.values(4, n)
		case 1:
			o.Text = strings.Repeat("\x02", s.below(4))
		case 2:
			o.Bits = 2 * s.below(n)
		}
		h.Objs[i] = o
	}
	return h
}

// each goes through few from each set of its objects, full heaps, all heaps of three objects that have a ref, SmallIntegers, or no slot, and many others.
func each(yield func(h api.Heap, roots []int)) {
	for n := range 1 << 11 {
		yield(few(), refs(slices.DeleteFunc(all(11), func(i int) bool { return n>>i&1 == 0 })))
	}
	for _, h := range full() {
		for _, roots := range [][]int{nil, {3, -1}, {0}, {510}, {254, 7, 254}, {100, 510, 0, 9}} {
			yield(h, roots)
		}
	}
	slots := [][]int{nil, {0}, {2}, {4}, {5, -1}}
	made := func(n int) api.Obj { return api.Obj{Class: 2 * (n % 3), Slots: slots[n/3], Hash: n} }
	for n := range 15 * 15 * 15 {
		h := api.Heap{Cap: 3, Objs: []api.Obj{made(n % 15), made(n / 15 % 15), made(n / 225)}}
		for _, roots := range [][]int{nil, {0}, {2}, {4}, {2, 0}, {4, 0}, {2, 4, 2}, {4, 2, 0}, {3}, {1, 4, 7}} {
			yield(h, roots)
		}
	}
	s := spread(1)
	for range 1000 {
		n := 1 + s.below(40)
		yield(s.heap(n), s.values(5, n))
	}
}

// full are heaps of as many objects as there may be, in a row, in a ring, and apart.
func full() []api.Heap {
	made := func(do func(o *api.Obj, i int)) api.Heap {
		h := api.Heap{Cap: 256, Last: 1, Objs: make([]api.Obj, 256)}
		for i := range h.Objs {
			h.Objs[i].Hash = i
			do(&h.Objs[i], i)
		}
		return h
	}
	return []api.Heap{
		made(func(o *api.Obj, i int) { o.Class = 2 * min(i+1, 255) }),
		made(func(o *api.Obj, i int) { o.Class, o.Kind, o.Bits = 2*max(i-1, 0), 2, 2*i }),
		made(func(o *api.Obj, i int) { o.Class, o.Kind, o.Text = 2*((i+5)%256), 1, strings.Repeat("\x04", i%65) }),
		made(func(o *api.Obj, i int) { o.Class, o.Slots = 2*i, []int{2 * (i / 2), 2*i + 1, 2 * (i / 3)} }),
		made(func(o *api.Obj, i int) { o.Class, o.Slots = 2*i, slices.Repeat([]int{2 * (255 - i)}, 64) }),
	}
}
