package look

import (
	"anamnesis/api"
	"fmt"
	"slices"
	"strings"
	"testing"
)

// The bounds stand here as numbers of their own, so that a test doesn't follow the code into a mistake.
const (
	mostOfHash = 1073741823
	greatest   = 2147483647  // the value of the greatest SmallInteger
	least      = -2147483647 // of the least one
	theNaN     = 9221120237041090561
	signed     = -1 << 63
	highest    = 1<<63 - 1
)

// few is a heap with classes: 2 under 4 under 6, and 8 under 2; their dictionaries are 10, 12, 14, and none. 16 is above itself, and 18 under what is no class. Selectors are 20, 22, 26 (texts), 24 (a float), and SmallIntegers.
func few() api.Heap {
	return api.Heap{Cap: 16, Last: 77, Objs: []api.Obj{
		0:  {Class: 6, Slots: []int{20, 101}, Hash: 5},
		1:  {Class: 6, Slots: []int{4, 10, 1}},
		2:  {Class: 8, Slots: []int{6, 12, 129}},
		3:  {Class: 2, Slots: []int{0, 14, 5, 9, -1}},
		4:  {Class: 6, Slots: []int{2, 0, 7}},
		5:  {Class: 18, Slots: []int{20, 31, 22, 33, 20, 35, 24}},
		6:  {Class: 18, Slots: []int{22, 41, 24, 43, 7, 45}},
		7:  {Slots: []int{24, 51, 26, 0, 1, 53, 20, 55, 28, 28, greatest, least}},
		8:  {Class: 26, Slots: []int{16, 10, 1}},
		9:  {Slots: []int{20, 10, 1}},
		10: {Class: 2, Kind: 1, Text: "a"},
		11: {Class: 4, Kind: 1, Text: "a"},
		12: {Class: 28, Kind: 2, Bits: 4607182418800017408},
		13: {Kind: 1},
		14: {},
	}}
}

// classes are few's; others are its other values.
func classes() []int { return []int{2, 4, 6, 8, 16, 18} }

func others() []int {
	return []int{0, 10, 12, 14, 20, 22, 24, 26, 28, 1, 3, 5, 7, -1, 129, greatest, least}
}

// noValues are none of few's.
func noValues() []int {
	return []int{30, 32, 512, 2097150, 2097152, -2, -4, -30, greatest + 1, greatest + 2, least - 1, least - 2, 1 << 32, 1<<32 + 1, 1<<32 + 2, signed, signed + 1, signed + 2, highest - 1, highest}
}

func all() []int { return slices.Concat(classes(), others(), noValues()) }

// turned is few, but for what do does to it.
func turned(do func(h *api.Heap)) api.Heap {
	h := few()
	do(&h)
	return h
}

// turnedObj is few, but for what do does to object i.
func turnedObj(i int, do func(o *api.Obj)) api.Heap {
	return turned(func(h *api.Heap) { do(&h.Objs[i]) })
}

// firsts are what object 0 may be: of each kind, with much, little, or nothing.
func firsts() []api.Obj {
	return []api.Obj{
		{},
		{Slots: []int{20, 101, 22, 103, 24}},
		{Kind: 1},
		{Kind: 1, Text: "a"},
		{Kind: 2},
		{Kind: 2, Bits: 4607182418800017408},
	}
}

func mayNotBe() map[string]api.Heap {
	obj := turnedObj
	return map[string]api.Heap{
		"the zero one":         {},
		"no cap":               turned(func(h *api.Heap) { h.Cap = 0 }),
		"cap below 0":          turned(func(h *api.Heap) { h.Cap = signed }),
		"too much room":        turned(func(h *api.Heap) { h.Cap = 257 }),
		"too many objects":     turned(func(h *api.Heap) { h.Cap = 14 }),
		"257 objects":          {Cap: 257, Objs: make([]api.Obj, 257)},
		"very many objects":    {Cap: 1, Objs: make([]api.Obj, 100000)},
		"last below 0":         turned(func(h *api.Heap) { h.Last = -1 }),
		"last too high":        turned(func(h *api.Heap) { h.Last = mostOfHash + 1 }),
		"class of none":        obj(14, func(o *api.Obj) { o.Class = 30 }),
		"class a SmallInteger": obj(14, func(o *api.Obj) { o.Class = 1 }),
		"class far away":       obj(14, func(o *api.Obj) { o.Class = highest - 1 }),
		"super of none":        obj(1, func(o *api.Obj) { o.Slots[0] = 30 }),
		"super below 0":        obj(1, func(o *api.Obj) { o.Slots[0] = -2 }),
		"dictionary of none":   obj(1, func(o *api.Obj) { o.Slots[1] = 30 }),
		"size no value":        obj(1, func(o *api.Obj) { o.Slots[2] = greatest + 2 }),
		"slot far away":        obj(3, func(o *api.Obj) { o.Slots[4] = signed }),
		"65 slots":             obj(1, func(o *api.Obj) { o.Slots = append(o.Slots, make([]int, 62)...) }),
		"very many slots":      obj(14, func(o *api.Obj) { o.Slots = make([]int, 100000) }),
		"65 bytes":             obj(13, func(o *api.Obj) { o.Text = strings.Repeat("x", 65) }),
		"no kind":              obj(14, func(o *api.Obj) { o.Kind = 3 }),
		"kind below 0":         obj(14, func(o *api.Obj) { o.Kind = -1 }),
		"a class of bytes":     obj(1, func(o *api.Obj) { o.Kind = 1 }),
		"a class of a float":   obj(1, func(o *api.Obj) { o.Kind = 2 }),
		"a class with a text":  obj(1, func(o *api.Obj) { o.Text = "a" }),
		"a class with bits":    obj(1, func(o *api.Obj) { o.Bits = 1 }),
		"another NaN":          obj(12, func(o *api.Obj) { o.Bits = theNaN + 1 }),
		"hash below 0":         obj(0, func(o *api.Obj) { o.Hash = -1 }),
		"hash too high":        obj(0, func(o *api.Obj) { o.Hash = mostOfHash + 1 }),
	}
}

// row is a heap of n classes from object 1 on, each under the next one, and the last one under object n+1, which is any. Each one's dictionary has its own number, as a selector and as what goes with it.
func row(n int, end api.Obj) api.Heap {
	h := api.Heap{Cap: 2*n + 2, Objs: make([]api.Obj, n+2, 2*n+2)}
	for i := 1; i <= n; i++ {
		h.Objs[i].Slots = []int{2 * (i + 1), 2 * (n + 1 + i), 1}
		h.Objs = append(h.Objs, api.Obj{Slots: []int{2*i + 1, -2*i - 1}})
	}
	h.Objs[n+1] = end
	return h
}

// found is what Find answers.
type found struct {
	v, at int
	e     api.Errno
}

func nothing(e api.Errno) found { return found{e: e} }

// isClassByWords tells it of a heap that may be, by the chapter's words one by one.
func isClassByWords(h api.Heap, c int) bool {
	isRef := func(v int) bool { return v%2 == 0 && v >= 0 && v < 2*len(h.Objs) }
	if !isRef(c) || h.Objs[c/2].Kind != 0 || len(h.Objs[c/2].Slots) < 3 {
		return false
	}
	s := h.Objs[c/2].Slots
	isDictionary := s[1] == 0 || isRef(s[1]) && h.Objs[s[1]/2].Kind == 0
	return isRef(s[0]) && isDictionary && s[2]%2 != 0 && s[2] >= 1 && s[2] <= 129
}

// pairsByWords are those of a class, in their order.
func pairsByWords(h api.Heap, c int) [][2]int {
	d := h.Objs[c/2].Slots[1]
	var l [][2]int
	if d == 0 {
		return nil
	}
	for rest := h.Objs[d/2].Slots; len(rest) > 1; rest = rest[2:] {
		l = append(l, [2]int{rest[0], rest[1]})
	}
	return l
}

// findByWords seeks in c, else in its super, through as many classes as left.
func findByWords(h api.Heap, c, sel, left int) found {
	if left == 0 {
		return nothing(api.ErrNone)
	}
	if !isClassByWords(h, c) {
		return nothing(api.ErrClass)
	}
	for _, pair := range pairsByWords(h, c) {
		if pair[0] == sel {
			return found{pair[1], c, api.OK}
		}
	}
	if above := h.Objs[c/2].Slots[0]; above != 0 {
		return findByWords(h, above, sel, left-1)
	}
	return nothing(api.ErrNone)
}

// underByWords tells whether d is c, or above it, as many classes as left, c among them.
func underByWords(h api.Heap, c, d, left int) bool {
	if left == 0 || !isClassByWords(h, c) {
		return false
	}
	above := h.Objs[c/2].Slots[0]
	return c == d || above != 0 && underByWords(h, above, d, left-1)
}

// told is a heap, in which an empty list and a nil one are the same.
func told(h api.Heap) string { return fmt.Sprintf("%+q", fmt.Sprintf("%+v", h)) }

func wantMay(t *testing.T, what string, h api.Heap, c int, want bool) {
	t.Helper()
	if May(h, c) != want {
		t.Fatalf("%s: May of %d: %v", what, c, !want)
	}
}

func wantOf(t *testing.T, what string, h api.Heap, v, want int, e api.Errno) {
	t.Helper()
	if class, f := Of(h, v); class != want || f != e {
		t.Fatalf("%s: Of %d: %d, error %d; want %d, error %d", what, v, class, f, want, e)
	}
}

func wantFind(t *testing.T, what string, h api.Heap, c, sel int, want found) {
	t.Helper()
	if got := find(h, c, sel); got != want {
		t.Fatalf("%s: Find of %d in %d: %v; want %v", what, sel, c, got, want)
	}
}

func wantUnder(t *testing.T, what string, h api.Heap, c, d int, want bool) {
	t.Helper()
	if Under(h, c, d) != want {
		t.Fatalf("%s: Under of %d, %d: %v", what, c, d, !want)
	}
}

func find(h api.Heap, c, sel int) found {
	v, at, e := Find(h, c, sel)
	return found{v, at, e}
}

// spread is a row of numbers all over, the same in each run.
type spread uint32

func (s *spread) below(n int) int {
	*s = *s*1664525 + 1013904223
	return int(uint64(*s) * uint64(n) >> 32)
}

// oneOf is mostly the first, and now and then one of the others.
func (s *spread) oneOf(first int, others ...int) int {
	if len(others) == 0 || s.below(8) > 0 {
		return first
	}
	return others[s.below(len(others))]
}

// heap is one of n classes from object 1 on, and as many others behind them, mostly dictionaries of few selectors. Now and then something in a class is wrong, or object 0 is a text or a float.
func (s *spread) heap(n int) api.Heap {
	h := api.Heap{Cap: 2*n + 1, Objs: make([]api.Obj, 2*n+1)}
	anywhere := func() int { return 2 * s.below(2*n+1) }
	for i := 1; i <= n; i++ {
		h.Objs[i].Slots = []int{s.oneOf(2*(1+s.below(n)), 0, 0, anywhere(), 5), s.oneOf(2*(n+1+s.below(n)), 0, anywhere(), 5), s.oneOf(2*s.below(65)+1, -1, 131, 4)}
		if s.below(16) == 0 {
			h.Objs[i].Slots = h.Objs[i].Slots[:s.below(3)]
		}
	}
	for i := n + 1; i <= 2*n; i++ {
		o := &h.Objs[i]
		o.Kind = s.oneOf(0, 1, 2)
		for range s.below(6 * (1 - min(o.Kind, 1))) {
			o.Slots = append(o.Slots, s.oneOf(2*s.below(5)+1, anywhere()))
		}
	}
	h.Objs[0] = api.Obj{Slots: slices.Clone(h.Objs[n].Slots)}
	if s.below(4) == 0 {
		h.Objs[0] = firsts()[2+s.below(4)]
	}
	return h
}

// each goes through heaps that may be: few, rows, and many others. It looks whether each one stays as it was, whatever is asked of it.
func each(t *testing.T, yield func(h api.Heap)) {
	t.Helper()
	for _, h := range many() {
		before := told(h)
		yield(h)
		if after := told(h); after != before {
			t.Fatalf("the heap has changed to\n%s; it was\n%s", after, before)
		}
	}
}

func many() []api.Heap {
	l := []api.Heap{few()}
	for _, n := range []int{1, 2, 63, 64, 65, 66, 126} {
		for _, last := range []api.Obj{{}, {Slots: []int{0, 0, 1}}, {Slots: []int{2, 0, 1}}} {
			l = append(l, row(n, last))
		}
	}
	s := spread(1)
	for range 800 {
		l = append(l, s.heap(1+s.below(9)))
	}
	for range 20 {
		l = append(l, s.heap(100+s.below(28)))
	}
	return l
}

// some are values of h: all of a small heap, some of a great one, and what is none.
func some(h api.Heap) []int {
	l := []int{1, 3, 5, 7, 9, -1, greatest, least, -2, 2 * len(h.Objs), highest, signed}
	for i := 0; i < len(h.Objs); i += 1 + len(h.Objs)/20 {
		l = append(l, 2*i)
	}
	return l
}
