package proc_test

import (
	"anamnesis/api"
	"anamnesis/heap"
	"anamnesis/proc"
	"fmt"
	"slices"
	"strings"
	"testing"
)

// The bounds stand here as numbers of their own, so that a test doesn't follow the code into a mistake.
const (
	mostOfHash = 1073741823
	greatest   = 2147483647  // the value of the greatest SmallInteger
	least      = -2147483647 // of the least one
	signed     = -1 << 63
	highest    = 1<<63 - 1
	noProcess  = 140 // the error ErrProc
	noList     = 141 // ErrList
)

// few is a heap of the 12 first objects; two lists, from 24 (priorities 7, 5, 5, 2, 0) and from 34 (1, 6, 1, 4) on; processes that stand in none (42 to 50); rows that are no lists (52 to 62); what is almost a process (64 to 86), semaphores (88 to 92), and what is almost one (94 to 108).
func few() api.Heap {
	return api.Heap{Cap: 60, Last: 77, Objs: []api.Obj{
		0:  {Class: 24, Hash: 5},
		1:  {Hash: 1},
		2:  {Class: 2, Hash: 2},
		3:  {Slots: []int{0, 0, 1}, Hash: 3},
		4:  {Class: 8, Slots: []int{24, 0, 1}},
		5:  {Kind: 1, Text: "block"},
		6:  {Slots: []int{0, 7, -1, 5}},
		7:  {Slots: []int{0, 0, 9}, Hash: mostOfHash},
		8:  {Slots: []int{0, 0, 5}},
		9:  {Kind: 1, Text: "array"},
		10: {Class: 8, Kind: 2, Bits: 1 << 62},
		11: {Kind: 1, Text: "dnu", Hash: 77},
		// A list that is in order.
		12: process(26, 2, 15, 0),
		13: process(28, 0, 11, 78),
		14: process(30, 24, 11, 0),
		15: process(32, 118, 5, 88),
		16: process(0, 2, 1, 90),
		// A list that is in no order.
		17: process(36, 2, 3, 0),
		18: process(38, 2, 13, 92),
		19: process(40, 0, 3, 0),
		20: process(0, 2, 9, 92),
		// None of any list.
		21: process(0, 2, 11, 0),
		22: process(0, 0, 1, 92),
		23: process(0, 46, 15, 46),
		24: process(0, 2, 5, 24),
		25: process(0, 12, 7, 0),
		// A ring of two, one that leads into it, and a ring of one.
		26: process(54, 2, 7, 0),
		27: process(52, 2, 7, 0),
		28: process(52, 2, 7, 0),
		29: process(58, 2, 7, 0),
		// These lead to what is no process.
		30: process(64, 2, 7, 0),
		31: process(60, 2, 7, 0),
		// Almost processes.
		32: {Class: 16, Slots: []int{0, 2, 7, 0}},
		33: {Class: 14, Slots: []int{0, 2, 7}},
		34: {Class: 14, Slots: []int{0, 2, 7, 0, 0}},
		35: process(0, 2, 17, 0),
		36: process(0, 2, -1, 0),
		37: process(0, 2, 6, 0),
		38: process(1, 2, 7, 0),
		39: process(0, 3, 7, 0),
		40: process(0, 2, 7, 1),
		41: {Class: 14, Kind: 1, Text: "\x00\x02\x07\x00"},
		42: {Class: 14, Kind: 2, Bits: 1 << 62},
		43: {Class: 14},
		// Semaphores.
		44: semaphore(1, 0),
		45: semaphore(greatest, 24),
		46: semaphore(7, 64),
		// Almost semaphores.
		47: {Class: 14, Slots: []int{1, 0}},
		48: {Class: 16, Slots: []int{1}},
		49: {Class: 16, Slots: []int{1, 0, 0}},
		50: semaphore(-1, 0),
		51: semaphore(0, 0),
		52: semaphore(1, 1),
		53: {Class: 16, Kind: 1, Text: "\x01\x00"},
		54: {Class: 16},
		55: {Class: 16, Kind: 2, Bits: 1 << 62},
		56: {Class: 10, Slots: slots64()},
		57: {Class: 16, Slots: []int{least, 0}},
		58: process(0, 2, least, 0),
		59: process(0, 2, greatest, 0),
	}}
}

func process(next, ctx, prio, list int) api.Obj {
	return api.Obj{Class: 14, Slots: []int{next, ctx, prio, list}, Hash: 9 + prio&7}
}

func semaphore(count, first int) api.Obj {
	return api.Obj{Class: 16, Slots: []int{count, first}, Hash: 6}
}

func slots64() []int {
	l := make([]int, 64)
	for k := range l {
		l[k] = 2*k - 31
	}
	l[0], l[63] = 0, 62
	return l
}

// lists are few's, by who is first in them.
func lists() map[int][]int {
	return map[int][]int{
		0:  {},
		24: {24, 26, 28, 30, 32}, 26: {26, 28, 30, 32}, 28: {28, 30, 32}, 30: {30, 32}, 32: {32},
		34: {34, 36, 38, 40}, 36: {36, 38, 40}, 38: {38, 40}, 40: {40},
		42: {42}, 44: {44}, 46: {46}, 48: {48}, 50: {50},
	}
}

// free are few's processes with nobody next to them.
func free() []int { return []int{32, 40, 42, 44, 46, 48, 50} }

// refs are those of few's objects.
func refs() []int {
	var l []int
	for i := range few().Objs {
		l = append(l, 2*i)
	}
	return l
}

// noRefs are none of few's, nor of any object that it could have.
func noRefs() []int {
	return []int{120, 122, 512, 514, 2097150, 2097152, -2, -4, -24, 1, 3, 25, 43, -1, -25, greatest, least, greatest + 1, least - 1, 1 << 32, 1<<32 + 24, 1<<32 + 25, signed, signed + 24, signed + 25, highest, highest - 1}
}

func all() []int { return append(refs(), noRefs()...) }

// turned is few, but for what do does to it.
func turned(do func(h *api.Heap)) api.Heap {
	h := few()
	do(&h)
	return h
}

// turnedObj is few, but for what do does to object i.
func turnedObj(i int, do func(o *api.Obj)) api.Heap {
	return turned(func(h *api.Heap) { do(&h.Objs[i]) })
}

func turnedSlot(i, slot, v int) api.Heap {
	return turnedObj(i, func(o *api.Obj) { o.Slots[slot] = v })
}

// nexts is few, but next to each process that is told, by pairs, is another one.
func nexts(pairs ...int) api.Heap {
	return turned(func(h *api.Heap) {
		for pair := range slices.Chunk(pairs, 2) {
			h.Objs[pair[0]/2].Slots[0] = pair[1]
		}
	})
}

// mayNotBe are heaps that have few's objects, mostly, but something else is wrong.
func mayNotBe() map[string]api.Heap {
	obj := turnedObj
	return map[string]api.Heap{
		"the zero one":         {},
		"no cap":               turned(func(h *api.Heap) { h.Cap = 0 }),
		"cap below 0":          turned(func(h *api.Heap) { h.Cap = signed }),
		"too much room":        turned(func(h *api.Heap) { h.Cap = 257 }),
		"too many objects":     turned(func(h *api.Heap) { h.Cap = 59 }),
		"257 objects":          {Cap: 257, Objs: append(few().Objs, make([]api.Obj, 197)...)},
		"very many objects":    {Cap: 60, Objs: append(few().Objs, make([]api.Obj, 1000)...)},
		"last below 0":         turned(func(h *api.Heap) { h.Last = -1 }),
		"last too high":        turned(func(h *api.Heap) { h.Last = mostOfHash + 1 }),
		"class of none":        obj(0, func(o *api.Obj) { o.Class = 120 }),
		"class a SmallInteger": obj(12, func(o *api.Obj) { o.Class = 1 }),
		"next of none":         turnedSlot(12, 0, 120),
		"context of none":      turnedSlot(12, 1, 120),
		"list of none":         turnedSlot(12, 3, 120),
		"first of none":        turnedSlot(44, 1, 120),
		"a priority no value":  turnedSlot(12, 2, greatest+2),
		"a count no value":     turnedSlot(44, 0, greatest+2),
		"slot far away":        turnedSlot(6, 2, highest-1),
		"slot no value":        turnedSlot(56, 63, -2),
		"65 slots":             obj(56, func(o *api.Obj) { o.Slots = append(o.Slots, 0) }),
		"65 bytes":             obj(5, func(o *api.Obj) { o.Text = strings.Repeat("x", 65) }),
		"no kind":              obj(1, func(o *api.Obj) { *o = api.Obj{Kind: 3} }),
		"kind below 0":         obj(1, func(o *api.Obj) { *o = api.Obj{Kind: -1} }),
		"bytes with slots":     obj(12, func(o *api.Obj) { o.Kind = 1 }),
		"a float with slots":   obj(44, func(o *api.Obj) { o.Kind = 2 }),
		"slots and bits":       obj(12, func(o *api.Obj) { o.Bits = 1 }),
		"slots and a text":     obj(44, func(o *api.Obj) { o.Text = "a" }),
		"another NaN":          obj(10, func(o *api.Obj) { o.Bits = 2047<<52 + 1 }),
		"hash below 0":         obj(0, func(o *api.Obj) { o.Hash = -1 }),
		"hash too high":        obj(12, func(o *api.Obj) { o.Hash = mostOfHash + 1 }),
	}
}

func copyOf(h api.Heap) api.Heap {
	g := h
	g.Objs = nil
	for _, o := range h.Objs {
		o.Slots = append([]int(nil), o.Slots...)
		g.Objs = append(g.Objs, o)
	}
	return g
}

// told is a heap, in which an empty list and a nil one are the same.
func told(h api.Heap) string { return fmt.Sprintf("%+q", fmt.Sprintf("%+v", h)) }

// isSame is told == told, but soon done.
func isSame(g, h api.Heap) bool {
	isPair := func(a, b api.Obj) bool {
		return a.Class == b.Class && a.Kind == b.Kind && a.Text == b.Text && a.Bits == b.Bits && a.Hash == b.Hash && slices.Equal(a.Slots, b.Slots)
	}
	return g.Cap == h.Cap && g.Last == h.Last && slices.EqualFunc(g.Objs, h.Objs, isPair)
}

// answer is what a call answers: a heap, who was taken, and the list's first.
type answer struct {
	h        api.Heap
	p, first int
	e        api.Errno
}

// wrong is what comes with e: h, but for ErrArg.
func wrong(h api.Heap, e api.Errno) answer {
	if e == 1 {
		return answer{e: 1}
	}
	return answer{h: h, e: e}
}

// partsByWords is what the object has in its slots whose ref v is, and whether it is of that class, with so many slots.
func partsByWords(h api.Heap, v, class, size int) ([]int, bool) {
	if v%2 != 0 || v < 0 || v >= 2*len(h.Objs) {
		return nil, false
	}
	o := h.Objs[v/2]
	return o.Slots, o.Kind == 0 && o.Class == class && len(o.Slots) == size
}

// mayByWords tells May by the chapter's words one by one.
func mayByWords(h api.Heap, p int) bool {
	s, ok := partsByWords(h, p, 14, 4)
	return ok && heap.May(h) && s[0]%2 == 0 && s[1]%2 == 0 && s[3]%2 == 0 && slices.Contains([]int{1, 3, 5, 7, 9, 11, 13, 15}, s[2])
}

// semByWords tells Sem so.
func semByWords(h api.Heap, s int) bool {
	l, ok := partsByWords(h, s, 16, 2)
	return ok && heap.May(h) && l[0]%2 != 0 && l[0] >= 1 && l[1]%2 == 0
}

// listByWords tells List so, and by itself: the first, and the list from its next on.
func listByWords(h api.Heap, first int) ([]int, api.Errno) {
	if !heap.May(h) {
		return nil, 1
	}
	return restByWords(h, first, nil)
}

// restByWords is the list from p on, in which none of seen may stand.
func restByWords(h api.Heap, p int, seen []int) ([]int, api.Errno) {
	if p == 0 {
		return nil, 0
	}
	if !mayByWords(h, p) || slices.Contains(seen, p) {
		return nil, noList
	}
	rest, e := restByWords(h, h.Objs[p/2].Slots[0], append(seen, p))
	if e != 0 {
		return nil, e
	}
	return append([]int{p}, rest...), 0
}

// joinByWords tells Insert, and Append (where it is last): it goes next by next to who stands ahead of p then.
func joinByWords(h api.Heap, first, p int, last bool) answer {
	l, e := listByWords(h, first)
	if e != 0 {
		return wrong(h, e)
	}
	if !mayByWords(h, p) || slices.Contains(l, p) || h.Objs[p/2].Slots[0] != 0 {
		return wrong(h, noProcess)
	}
	g := copyOf(h)
	ahead, next := 0, first
	for next != 0 && (last || g.Objs[next/2].Slots[2] >= g.Objs[p/2].Slots[2]) {
		ahead, next = next, g.Objs[next/2].Slots[0]
	}
	g.Objs[p/2].Slots[0] = next
	if ahead == 0 {
		return answer{h: g, first: p}
	}
	g.Objs[ahead/2].Slots[0] = p
	return answer{h: g, first: first}
}

func insertByWords(h api.Heap, first, p int) answer { return joinByWords(h, first, p, false) }

func appendByWords(h api.Heap, first, p int) answer { return joinByWords(h, first, p, true) }

// dropByWords tells Drop so: who stands ahead of p stands ahead of p's next then.
func dropByWords(h api.Heap, first, p int) answer {
	l, e := listByWords(h, first)
	if e != 0 {
		return wrong(h, e)
	}
	if !slices.Contains(l, p) {
		return wrong(h, noProcess)
	}
	g := copyOf(h)
	next := g.Objs[p/2].Slots[0]
	g.Objs[p/2].Slots[0] = 0
	if first == p {
		return answer{h: g, first: next}
	}
	for _, q := range l {
		if h.Objs[q/2].Slots[0] == p {
			g.Objs[q/2].Slots[0] = next
		}
	}
	return answer{h: g, first: first}
}

// takeByWords tells Take: to drop the first one, if there is one.
func takeByWords(h api.Heap, first int) answer {
	if l, e := listByWords(h, first); e != 0 {
		return wrong(h, e)
	} else if len(l) == 0 {
		return wrong(h, noList)
	}
	got := dropByWords(h, first, first)
	got.p = first
	return got
}

// hold holds an answer against what is to come of a call, and looks whether its heap stays as it was.
func hold(t *testing.T, what string, h, before api.Heap, got, want answer) {
	t.Helper()
	if got.p != want.p || got.first != want.first || got.e != want.e || !isSame(got.h, want.h) {
		t.Fatalf("%s: %d, %d, error %d, %s; want %d, %d, error %d, %s", what, got.p, got.first, got.e, told(got.h), want.p, want.first, want.e, told(want.h))
	}
	if !isSame(h, before) {
		t.Fatalf("%s: the heap has changed to\n%s; it was\n%s", what, told(h), told(before))
	}
}

func wantInsert(t *testing.T, what string, h api.Heap, first, p int, want answer) {
	t.Helper()
	before := copyOf(h)
	g, n, e := proc.Insert(h, first, p)
	hold(t, fmt.Sprintf("%s: Insert from %d on of %d", what, first, p), h, before, answer{g, 0, n, e}, want)
}

func wantAppend(t *testing.T, what string, h api.Heap, first, p int, want answer) {
	t.Helper()
	before := copyOf(h)
	g, n, e := proc.Append(h, first, p)
	hold(t, fmt.Sprintf("%s: Append from %d on of %d", what, first, p), h, before, answer{g, 0, n, e}, want)
}

func wantDrop(t *testing.T, what string, h api.Heap, first, p int, want answer) {
	t.Helper()
	before := copyOf(h)
	g, n, e := proc.Drop(h, first, p)
	hold(t, fmt.Sprintf("%s: Drop from %d on of %d", what, first, p), h, before, answer{g, 0, n, e}, want)
}

func wantTake(t *testing.T, what string, h api.Heap, first int, want answer) {
	t.Helper()
	before := copyOf(h)
	g, p, n, e := proc.Take(h, first)
	hold(t, fmt.Sprintf("%s: Take from %d on", what, first), h, before, answer{g, p, n, e}, want)
}

func wantList(t *testing.T, what string, h api.Heap, first int, want []int, wantErr api.Errno) {
	t.Helper()
	before := copyOf(h)
	l, e := proc.List(h, first)
	if e != wantErr || !slices.Equal(l, want) {
		t.Fatalf("%s: List from %d on: %v, error %d; want %v, error %d", what, first, l, e, want, wantErr)
	}
	if !isSame(h, before) {
		t.Fatalf("%s: List from %d on: the heap has changed to\n%s; it was\n%s", what, first, told(h), told(before))
	}
}

func wantKind(t *testing.T, what string, h api.Heap, v int, isProcess, isSemaphore bool) {
	t.Helper()
	before := copyOf(h)
	if got := proc.May(h, v); got != isProcess {
		t.Fatalf("%s: May of %d: %v", what, v, got)
	}
	if got := proc.Sem(h, v); got != isSemaphore {
		t.Fatalf("%s: Sem of %d: %v", what, v, got)
	}
	if !isSame(h, before) {
		t.Fatalf("%s: of %d: the heap has changed to\n%s; it was\n%s", what, v, told(h), told(before))
	}
}

// wantWords holds what all calls but those of the list and p answer against the chapter's words.
func wantWords(t *testing.T, what string, h api.Heap, first int, ps ...int) {
	t.Helper()
	l, e := listByWords(h, first)
	wantList(t, what, h, first, l, e)
	wantTake(t, what, h, first, takeByWords(h, first))
	wantKind(t, what, h, first, mayByWords(h, first), semByWords(h, first))
	for _, p := range ps {
		wantInsert(t, what, h, first, p, insertByWords(h, first, p))
		wantAppend(t, what, h, first, p, appendByWords(h, first, p))
		wantDrop(t, what, h, first, p, dropByWords(h, first, p))
	}
}

// spread is a row of bits all over, the same in each run.
type spread uint64

func (s *spread) next() int {
	*s += 0x9e3779b97f4a7c15
	z := uint64(*s)
	z = (z ^ z>>30) * 0xbf58476d1ce4e5b9
	z = (z ^ z>>27) * 0x94d049bb133111eb
	return int(z ^ z>>31)
}

func (s *spread) below(n int) int { return int(uint64(s.next()) % uint64(n)) }

func (s *spread) of(l []int) int { return l[s.below(len(l))] }

// anyInt is one of all, one near 0, or one of all bits.
func (s *spread) anyInt() int {
	switch s.below(4) {
	case 0:
		return s.next()
	case 1:
		return s.below(80) - 10
	}
	return s.of(all())
}
