package canon

import (
	"anamnesis/api"
	"fmt"
	"slices"
	"strings"
	"testing"
)

// The bounds stand here as numbers of their own, so that a test doesn't follow the code into a mistake.
const (
	mostOfHash = 1073741823
	greatest   = 2147483647  // the value of the greatest SmallInteger
	least      = -2147483647 // of the least one
	theNaN     = 9221120237041090561
	signed     = -1 << 63
	highest    = 1<<63 - 1
)

// few is a heap with objects of each kind, that hold themselves, one another, or nothing.
func few() api.Heap {
	return api.Heap{Cap: 13, Last: 77, Objs: []api.Obj{
		0:  {Hash: 5},
		1:  {Class: 2, Slots: []int{2, 7, 2}, Hash: 6},
		2:  {Class: 6, Kind: 1, Text: "a\x00\x06\xff", Hash: 9},
		3:  {Class: 6},
		4:  {Class: 8, Kind: 2, Bits: 8},
		5:  {Slots: []int{12, -1}},
		6:  {Slots: []int{least, 10, greatest}},
		7:  {Class: 6, Slots: []int{20, 1, 8}, Hash: mostOfHash},
		8:  {Class: 18, Slots: []int{4, 18, 2, 16, 21}},
		9:  {Class: 20, Kind: 1},
		10: {Class: 18, Kind: 2, Bits: theNaN},
	}}
}

// turned is few, but for what do does to it.
func turned(do func(h *api.Heap)) api.Heap {
	h := few()
	do(&h)
	return h
}

// turnedObj is few, but for what do does to object i.
func turnedObj(i int, do func(o *api.Obj)) api.Heap {
	return turned(func(h *api.Heap) { do(&h.Objs[i]) })
}

// noValues are none of few's.
func noValues() []int {
	return []int{22, 24, 26, 512, 2097150, 2097152, -2, -4, greatest + 1, greatest + 2, least - 1, least - 2, 1 << 32, 1<<32 + 1, signed, signed + 1, highest - 1, highest}
}

func mayNotBe() map[string]api.Heap {
	obj := turnedObj
	return map[string]api.Heap{
		"the zero one":         {},
		"cap below 0":          turned(func(h *api.Heap) { h.Cap = signed }),
		"cap too high":         turned(func(h *api.Heap) { h.Cap = 257 }),
		"too many objects":     turned(func(h *api.Heap) { h.Cap = 10 }),
		"257 objects":          {Cap: 257, Objs: make([]api.Obj, 257)},
		"very many objects":    {Cap: 256, Objs: make([]api.Obj, 5000)},
		"last below 0":         turned(func(h *api.Heap) { h.Last = -1 }),
		"last too high":        turned(func(h *api.Heap) { h.Last = mostOfHash + 1 }),
		"class of none":        obj(8, func(o *api.Obj) { o.Class = 22 }),
		"class a SmallInteger": obj(8, func(o *api.Obj) { o.Class = 17 }),
		"class far away":       obj(0, func(o *api.Obj) { o.Class = highest - 1 }),
		"slot of none":         obj(8, func(o *api.Obj) { o.Slots[2] = 22 }),
		"slot below 0":         obj(8, func(o *api.Obj) { o.Slots[0] = -2 }),
		"slot no value":        obj(1, func(o *api.Obj) { o.Slots[1] = greatest + 2 }),
		"65 slots":             obj(0, func(o *api.Obj) { o.Slots = make([]int, 65) }),
		"65 bytes":             obj(9, func(o *api.Obj) { o.Text = strings.Repeat("x", 65) }),
		"no kind":              obj(10, func(o *api.Obj) { o.Kind = 3 }),
		"bytes with slots":     obj(9, func(o *api.Obj) { o.Slots = []int{0} }),
		"a float with a text":  obj(4, func(o *api.Obj) { o.Text = "a" }),
		"slots with bits":      obj(0, func(o *api.Obj) { o.Bits = 1 }),
		"another NaN":          obj(10, func(o *api.Obj) { o.Bits++ }),
		"hash below 0":         obj(0, func(o *api.Obj) { o.Hash = -1 }),
		"hash too high":        obj(0, func(o *api.Obj) { o.Hash = mostOfHash + 1 }),
	}
}

// told is a heap and lists as a text, in which an empty list and a nil one are the same.
func told(h api.Heap, lists ...[]int) string { return fmt.Sprintf("%+v %v", h, lists) }

// copyOf is h in memory of its own.
func copyOf(h api.Heap) api.Heap {
	h.Objs = slices.Clone(h.Objs)
	for i, o := range h.Objs {
		h.Objs[i].Slots = slices.Clone(o.Slots)
	}
	return h
}

// all are the numbers below n.
func all(n int) []int {
	var l []int
	for i := range n {
		l = append(l, i)
	}
	return l
}

// refs are the values of the objects with those numbers.
func refs(numbers []int) []int {
	var l []int
	for _, i := range numbers {
		l = append(l, 2*i)
	}
	return l
}

// metOf are the numbers of the objects of h in the order in which one meets them, by the chapter's words: from a row of all that is looked at.
func metOf(h api.Heap, roots []int) []int {
	var met []int
	look := func(row ...int) {
		for _, v := range row {
			if v%2 == 0 && !slices.Contains(met, v/2) {
				met = append(met, v/2)
			}
		}
	}
	look(roots...)
	for k := 0; k < len(met); k++ {
		look(h.Objs[met[k]].Class)
		look(h.Objs[met[k]].Slots...)
	}
	return met
}

// renamed are the values by new numbers: of objects where they stand in the row of those that are met.
func renamed(met, l []int) []int {
	var to []int
	for _, v := range l {
		if v%2 == 0 {
			v = 2 * slices.Index(met, v/2)
		}
		to = append(to, v)
	}
	return to
}

// inOrder is the heap of those that are met, taken one by one, and written anew.
func inOrder(h api.Heap, met []int) api.Heap {
	g := api.Heap{Cap: h.Cap, Last: h.Last}
	for _, i := range met {
		o := h.Objs[i]
		g.Objs = append(g.Objs, api.Obj{Class: renamed(met, []int{o.Class})[0], Kind: o.Kind, Slots: renamed(met, o.Slots), Text: o.Text, Bits: o.Bits, Hash: o.Hash})
	}
	return g
}

// canonical is what Of tells, where no error is to be.
func canonical(t *testing.T, h api.Heap, roots []int) (api.Heap, []int) {
	t.Helper()
	g, to, e := Of(h, roots)
	if e != api.OK {
		t.Fatalf("Of from %v: error %d", roots, e)
	}
	return g, to
}

// wantOf holds Of against what is to come of it, and looks whether the arguments stay as they were.
func wantOf(t *testing.T, h api.Heap, roots []int, want api.Heap, wantRoots []int) {
	t.Helper()
	before := told(h, roots)
	g, to := canonical(t, h, roots)
	if told(g, to) != told(want, wantRoots) {
		t.Fatalf("Of from %v:\n%s; want\n%s", roots, told(g, to), told(want, wantRoots))
	}
	if after := told(h, roots); after != before {
		t.Fatalf("the arguments have changed to\n%s; they were\n%s", after, before)
	}
}

// wantByWords holds Of against what the chapter's words tell of any heap.
func wantByWords(t *testing.T, h api.Heap, roots []int) {
	t.Helper()
	met := metOf(h, roots)
	wantOf(t, h, roots, inOrder(h, met), renamed(met, roots))
}

// wantNothing holds Of against an error; and beside one nothing is the same as anything, itself neither.
func wantNothing(t *testing.T, what string, h api.Heap, roots []int, want api.Errno) {
	t.Helper()
	before := told(h, roots)
	g, to, e := Of(h, roots)
	if e != want || told(g, to) != told(api.Heap{}, nil) {
		t.Fatalf("%s: Of from %v: %s, %d; want error %d and nothing", what, roots, told(g, to), e, want)
	}
	for _, other := range []rooted{{h, roots}, {few(), nil}, {few(), []int{0}}, {h, nil}, {api.Heap{}, nil}} {
		if Same(h, roots, other.h, other.roots) || Same(other.h, other.roots, h, roots) {
			t.Fatalf("%s: from %v, beside error %d, the same as from %v of\n%v", what, roots, want, other.roots, other.h)
		}
	}
	if told(h, roots) != before {
		t.Fatalf("%s: the arguments have changed", what)
	}
}

// rooted is a heap with roots.
type rooted struct {
	h     api.Heap
	roots []int
}

// wantSame holds Same, either way round, against what it is to tell, and looks whether the arguments stay as they were.
func wantSame(t *testing.T, what string, a, b rooted, want bool) {
	t.Helper()
	before := told(a.h, a.roots) + told(b.h, b.roots)
	if Same(a.h, a.roots, b.h, b.roots) != want || Same(b.h, b.roots, a.h, a.roots) != want {
		t.Fatalf("%s: want %v of\n%s and\n%s", what, want, told(a.h, a.roots), told(b.h, b.roots))
	}
	if told(a.h, a.roots)+told(b.h, b.roots) != before {
		t.Fatalf("%s: the arguments have changed", what)
	}
}

// moved is a with object i at number to[i].
func moved(a rooted, to []int) rooted {
	values := func(l []int) []int {
		l = slices.Clone(l)
		for k, v := range l {
			if v%2 == 0 {
				l[k] = 2 * to[v/2]
			}
		}
		return l
	}
	g := a.h
	g.Objs = make([]api.Obj, len(a.h.Objs))
	for i, o := range a.h.Objs {
		o.Class, o.Slots = 2*to[o.Class/2], values(o.Slots)
		g.Objs[to[i]] = o
	}
	return rooted{g, values(a.roots)}
}

// orders goes through all orders of the numbers in l.
func orders(l []int, yield func([]int) bool) bool {
	if len(l) == 0 {
		return yield(nil)
	}
	for k := range l {
		rest := slices.Delete(slices.Clone(l), k, k+1)
		if !orders(rest, func(o []int) bool { return yield(append([]int{l[k]}, o...)) }) {
			return false
		}
	}
	return true
}

// isPairing tells by the chapter's words whether object p[i] of a, and object q[i] of b, may be pairs.
func isPairing(a, b rooted, p, q []int) bool {
	isOne := func(v, w int) bool {
		if v%2 == 0 && w%2 == 0 {
			return slices.Index(p, v/2) == slices.Index(q, w/2)
		}
		return v == w
	}
	areOne := func(l, m []int) bool { return slices.EqualFunc(l, m, isOne) }
	if !areOne(a.roots, b.roots) {
		return false
	}
	for i := range p {
		x, y := a.h.Objs[p[i]], b.h.Objs[q[i]]
		if x.Kind != y.Kind || x.Text != y.Text || x.Bits != y.Bits || x.Hash != y.Hash || !isOne(x.Class, y.Class) || !areOne(x.Slots, y.Slots) {
			return false
		}
	}
	return true
}

// isSame tells by the chapter's words whether there is a pairing: all are tried.
func isSame(a, b rooted) bool {
	p, q := metOf(a.h, a.roots), metOf(b.h, b.roots)
	if len(p) != len(q) {
		return false
	}
	found := false
	orders(q, func(o []int) bool {
		found = isPairing(a, b, p, o)
		return !found
	})
	return found
}

// spread is a row of numbers all over, the same in each run.
type spread uint32

func (s *spread) below(n int) int {
	*s = *s*1664525 + 1013904223
	return int(uint64(*s) * uint64(n) >> 32)
}

// order is the numbers below n in some order.
func (s *spread) order(n int) []int {
	l := all(n)
	for i := range l {
		k := i + s.below(n-i)
		l[i], l[k] = l[k], l[i]
	}
	return l
}

// values are some SmallIntegers', and refs of n objects.
func (s *spread) values(most, n int) []int {
	var l []int
	for range s.below(most) {
		if s.below(3) == 0 {
			l = append(l, 2*s.below(4*n)-4*n+1)
		} else {
			l = append(l, 2*s.below(n))
		}
	}
	return l
}

// heap is one of n objects, with hashes below that. Classes lie near their objects, so that not all is reached from everywhere.
func (s *spread) heap(n, hashes int) api.Heap {
	h := api.Heap{Cap: n + s.below(3), Last: s.below(1 << 30), Objs: make([]api.Obj, n)}
	for i := range h.Objs {
		o := api.Obj{Class: 2 * min(n-1, max(0, i+s.below(7)-3)), Kind: s.below(3), Hash: s.below(hashes)}
		switch o.Kind {
		case 0:
			o.Slots = s.values(4, n)
		case 1:
			o.Text = strings.Repeat("\x02", s.below(4))
		case 2:
			o.Bits = 2 * s.below(n)
		}
		h.Objs[i] = o
	}
	return h
}

// full are heaps of as many objects as there may be, in a row, in a ring, and apart.
func full() []api.Heap {
	made := func(do func(o *api.Obj, i int)) api.Heap {
		h := api.Heap{Cap: 256, Last: 1, Objs: make([]api.Obj, 256)}
		for i := range h.Objs {
			h.Objs[i].Hash = i
			do(&h.Objs[i], i)
		}
		return h
	}
	return []api.Heap{
		made(func(o *api.Obj, i int) { o.Class = 2 * min(i+1, 255) }),
		made(func(o *api.Obj, i int) { o.Class, o.Kind, o.Bits = 2*max(i-1, 0), 2, 2*i }),
		made(func(o *api.Obj, i int) { o.Class, o.Kind, o.Text = 2*((i+5)%256), 1, strings.Repeat("\x04", i%65) }),
		made(func(o *api.Obj, i int) { o.Class, o.Slots = 2*i, []int{2 * (i / 2), 2*i + 1, 2 * (i / 3)} }),
		made(func(o *api.Obj, i int) { o.Class, o.Slots = 2*i, slices.Repeat([]int{2 * (255 - i)}, 64) }),
	}
}

// each goes through few from each set of its objects, either way round, full heaps, all heaps of three objects that have a ref, SmallIntegers, or no slot, and many others.
func each(yield func(h api.Heap, roots []int)) {
	for n := range 1 << 11 {
		roots := refs(slices.DeleteFunc(all(11), func(i int) bool { return n>>i&1 == 0 }))
		yield(few(), roots)
		slices.Reverse(roots)
		yield(few(), roots)
	}
	for _, h := range full() {
		for _, roots := range [][]int{nil, {3, -1}, {0}, {510}, {254, 7, 254}, {100, 510, 0, 9}} {
			yield(h, roots)
		}
	}
	slots := [][]int{nil, {0}, {2}, {4}, {5, -1}}
	made := func(n int) api.Obj { return api.Obj{Class: 2 * (n % 3), Slots: slots[n/3], Hash: n} }
	for n := range 15 * 15 * 15 {
		h := api.Heap{Cap: 3, Objs: []api.Obj{made(n % 15), made(n / 15 % 15), made(n / 225)}}
		for _, roots := range [][]int{nil, {0}, {2}, {4}, {2, 0}, {4, 0}, {2, 4, 2}, {4, 2, 0}, {3}, {1, 4, 7}} {
			yield(h, roots)
		}
	}
	s := spread(1)
	for range 1000 {
		n := 1 + s.below(40)
		yield(s.heap(n, 1<<30), s.values(5, n))
	}
}
