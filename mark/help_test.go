package mark

import (
	"anamnesis/api"
	"reflect"
	"slices"
	"strings"
	"testing"
)

// The bounds stand here as numbers of their own, so that a test doesn't follow the code into a mistake.
const (
	mostOfHash = 1073741823
	greatest   = 2147483647  // the value of the greatest SmallInteger
	least      = -2147483647 // of the least one
	theNaN     = 9221120237041090561
	signed     = -1 << 63
	highest    = 1<<63 - 1
)

// few is a heap with objects of each kind, that hold themselves, one another, or nothing.
func few() api.Heap {
	return api.Heap{Cap: 12, Last: 77, Objs: []api.Obj{
		0:  {Hash: 5},
		1:  {Class: 2, Slots: []int{7, 4}},
		2:  {Kind: 1, Text: "a\x00\x06\xff"},
		3:  {Class: 6, Kind: 2, Bits: 8},
		4:  {Class: 10},
		5:  {Class: 10, Slots: []int{10, 10}},
		6:  {Slots: []int{14}},
		7:  {Slots: []int{-1, 12}},
		8:  {Class: 16, Slots: []int{1, -1, 9, greatest, least}},
		9:  {Class: 8, Kind: 1},
		10: {Kind: 2, Bits: theNaN, Hash: mostOfHash},
	}}
}

// noValues are none of few's: numbers of objects that are too high, and what is a value nowhere.
func noValues() []int {
	return []int{22, 24, 26, 512, 2097150, 2097152, -2, -4, greatest + 1, greatest + 2, least - 1, least - 2, 1 << 32, 1<<32 + 1, signed, signed + 1, highest - 1, highest}
}

// noRefs are all those, and values of SmallIntegers.
func noRefs() []int {
	return append(noValues(), 1, 3, 5, 7, 21, 23, -1, -3, greatest, least)
}

// turned is few, but for what do does to it.
func turned(do func(h *api.Heap)) api.Heap {
	h := few()
	do(&h)
	return h
}

// turnedObj is few, but for what do does to object i.
func turnedObj(i int, do func(o *api.Obj)) api.Heap {
	return turned(func(h *api.Heap) { do(&h.Objs[i]) })
}

func mayNotBe() map[string]api.Heap {
	obj := turnedObj
	return map[string]api.Heap{
		"the zero one":         {},
		"no cap":               turned(func(h *api.Heap) { h.Cap = 0 }),
		"cap below 0":          turned(func(h *api.Heap) { h.Cap = signed }),
		"too much room":        turned(func(h *api.Heap) { h.Cap = 257 }),
		"too many objects":     turned(func(h *api.Heap) { h.Cap = 10 }),
		"257 objects":          {Cap: 256, Objs: make([]api.Obj, 257)},
		"257, and their cap":   {Cap: 257, Objs: make([]api.Obj, 257)},
		"very many objects":    {Cap: 1, Objs: make([]api.Obj, 100000)},
		"last below 0":         turned(func(h *api.Heap) { h.Last = -1 }),
		"last too high":        turned(func(h *api.Heap) { h.Last = mostOfHash + 1 }),
		"class of none":        obj(0, func(o *api.Obj) { o.Class = 22 }),
		"class a SmallInteger": obj(0, func(o *api.Obj) { o.Class = 1 }),
		"class below 0":        obj(0, func(o *api.Obj) { o.Class = -2 }),
		"class far away":       obj(8, func(o *api.Obj) { o.Class = highest - 1 }),
		"slot of none":         obj(8, func(o *api.Obj) { o.Slots[4] = 22 }),
		"slot below 0":         obj(8, func(o *api.Obj) { o.Slots[0] = -2 }),
		"slot no value":        obj(5, func(o *api.Obj) { o.Slots[1] = greatest + 2 }),
		"slot far away":        obj(5, func(o *api.Obj) { o.Slots[1] = signed }),
		"65 slots":             obj(0, func(o *api.Obj) { o.Slots = make([]int, 65) }),
		"very many slots":      obj(0, func(o *api.Obj) { o.Slots = make([]int, 100000) }),
		"65 bytes":             obj(9, func(o *api.Obj) { o.Text = strings.Repeat("x", 65) }),
		"no kind":              obj(10, func(o *api.Obj) { o.Kind = 3 }),
		"kind below 0":         obj(10, func(o *api.Obj) { o.Kind = -1 }),
		"bytes with slots":     obj(9, func(o *api.Obj) { o.Slots = []int{0} }),
		"a float with slots":   obj(10, func(o *api.Obj) { o.Slots = []int{0} }),
		"slots with a text":    obj(0, func(o *api.Obj) { o.Text = "a" }),
		"slots with bits":      obj(0, func(o *api.Obj) { o.Bits = 1 }),
		"another NaN":          obj(10, func(o *api.Obj) { o.Bits = theNaN + 1 }),
		"hash below 0":         obj(0, func(o *api.Obj) { o.Hash = -1 }),
		"hash too high":        obj(0, func(o *api.Obj) { o.Hash = mostOfHash + 1 }),
	}
}

// copyOf is h in memory of its own; an empty list is nil there.
func copyOf(h api.Heap) api.Heap {
	g := h
	g.Objs = nil
	for _, o := range h.Objs {
		o.Slots = append([]int(nil), o.Slots...)
		g.Objs = append(g.Objs, o)
	}
	return g
}

func wantHeap(t *testing.T, h, want api.Heap) {
	t.Helper()
	if !reflect.DeepEqual(copyOf(h), want) {
		t.Fatalf("the heap has changed to\n%v; it was\n%v", h, want)
	}
}

// reached is what is reached by the chapter's words, taken as they stand: again and again all objects are gone through, till nothing is added.
func reached(h api.Heap, roots []int) []int {
	in := make([]bool, len(h.Objs))
	isReached := func(v int) bool {
		if slices.Contains(roots, v) {
			return true
		}
		for i, o := range h.Objs {
			if in[i] && (o.Class == v || slices.Contains(o.Slots, v)) {
				return true
			}
		}
		return false
	}
	for added := true; added; {
		added = false
		for i := range in {
			if !in[i] && isReached(2*i) {
				in[i], added = true, true
			}
		}
	}
	return numbersIn(in)
}

func numbersIn(in []bool) []int {
	var l []int
	for i := range in {
		if in[i] {
			l = append(l, i)
		}
	}
	return l
}

// wantLive holds Live and Has against what is to be reached, and looks whether the arguments stay as they were.
func wantLive(t *testing.T, h api.Heap, roots, want []int) {
	t.Helper()
	heapBefore, rootsBefore := copyOf(h), slices.Clone(roots)
	l, e := Live(h, roots)
	if e != api.OK || !slices.Equal(l, want) {
		t.Fatalf("Live from %v: %v, %d; want %v", roots, l, e, want)
	}
	for i := range h.Objs {
		if got := Has(h, roots, 2*i); got != slices.Contains(want, i) {
			t.Fatalf("Has from %v: object %d: %v", roots, i, got)
		}
	}
	wantHeap(t, h, heapBefore)
	if !slices.Equal(roots, rootsBefore) {
		t.Fatalf("the roots have changed to %v; they were %v", roots, rootsBefore)
	}
}

// wantNothing holds Live and Has against an error.
func wantNothing(t *testing.T, what string, h api.Heap, roots []int, want api.Errno) {
	t.Helper()
	before, rootsBefore := copyOf(h), slices.Clone(roots)
	if l, e := Live(h, roots); e != want || l != nil {
		t.Fatalf("%s: Live from %v: %v, %d; want error %d and nothing", what, roots, l, e, want)
	}
	for _, v := range append(noRefs(), 0, 2, 4, 6, 8, 10, 20) {
		if Has(h, roots, v) {
			t.Fatalf("%s: Has from %v: %d, beside error %d", what, roots, v, want)
		}
	}
	wantHeap(t, h, before)
	if !slices.Equal(roots, rootsBefore) {
		t.Fatalf("%s: the roots have changed to %v; they were %v", what, roots, rootsBefore)
	}
}

// spread is a row of numbers all over, the same in each run.
type spread uint64

func (s *spread) below(n int) int {
	*s += 0x9e3779b97f4a7c15
	z := uint64(*s)
	z = (z ^ z>>30) * 0xbf58476d1ce4e5b9
	z = (z ^ z>>27) * 0x94d049bb133111eb
	return int((z ^ z>>31) % uint64(n))
}

// value is a SmallInteger's, or the ref of one of n objects.
func (s *spread) value(n int) int {
	if s.below(3) == 0 {
		return 2*s.below(2*n) - 2*n + 1
	}
	return 2 * s.below(n)
}

// heap is one of n objects. Classes lie near their objects, so that not all is reached from everywhere.
func (s *spread) heap(n int) api.Heap {
	h := api.Heap{Cap: n}
	for i := range n {
		o := api.Obj{Class: 2 * max(0, i-s.below(4)), Kind: s.below(3)}
		switch o.Kind {
		case 0:
			for range s.below(3) {
				o.Slots = append(o.Slots, s.value(n))
			}
		case 1:
			o.Text = strings.Repeat("\x02", s.below(3))
		case 2:
			o.Bits = 2 * s.below(n)
		}
		h.Objs = append(h.Objs, o)
	}
	return h
}

func (s *spread) roots(n int) []int {
	var l []int
	for range s.below(5) {
		l = append(l, s.value(n))
	}
	return l
}
