package frame

import (
	"anamnesis/api"
	"anamnesis/code"
	"anamnesis/heap"
	"fmt"
	"slices"
	"strings"
	"testing"
)

// The bounds stand here as numbers of their own, so that a test doesn't follow the code into a mistake.
const (
	mostOfHash = 1073741823
	greatest   = 2147483647  // the value of the greatest SmallInteger
	least      = -2147483647 // of the least one
	theNaN     = 9221120237041090561
	signed     = -1 << 63
	highest    = 1<<63 - 1
)

// few is a heap with three methods (14, 20, 26) and four contexts (32 of 14, 34 of 20, 36 and 38 of 26), and room for two objects more. Method 14 has primitive 2, one argument, two temporaries; 20 has none of these, and no literals; 26 has as much of all as there may be.
func few() api.Heap {
	return api.Heap{Cap: 22, Last: 77, Objs: []api.Obj{
		0:  {Class: 6, Hash: 5},
		1:  {Class: 12, Slots: []int{0, 7, 2}, Hash: 6},
		2:  {Class: 12, Kind: 1, Text: "a\x00", Hash: 9},
		3:  {Class: 6, Kind: 2, Bits: 4607182418800017408},
		4:  {Kind: 1},
		5:  {Slots: []int{5, 3, 5, 16}},
		6:  {Class: 8},
		7:  {Slots: []int{5, 3, 5, 16, 18}, Hash: 11},
		8:  {Class: 2, Kind: 1, Text: "\x02\x01\x01\x00\x0e\x00"},
		9:  {Class: 2, Slots: []int{7}},
		10: {Class: 12, Slots: []int{1, 1, 1, 22, 24}},
		11: {Kind: 1, Text: "\x0f\x00"},
		12: {Class: 4},
		13: {Class: 26, Slots: []int{127, 9, 17, 28, 30}, Hash: mostOfHash},
		14: {Kind: 1, Text: longest()},
		15: {Slots: manyLits()},
		16: {Class: 12, Slots: contextOf(0, 3, 7, 14, -1, 32, 9, -9, greatest), Hash: 3},
		17: {Class: 12, Slots: contextOf(32, 1, 33, 20, 2, 32, 1, 3, 5, 7, 9, 11, 13, 15, 17, 19, 21, 23, 25, 27, 29, 38)},
		18: {Class: 12, Slots: contextOf(36, 63, 17, 26, 38, 4, 1, -1, 2, 4, 36, 38, least, greatest)},
		19: {Class: 12, Slots: contextOf(38, 31, 31, 26, 7, 0, 2, 0, 4, 0, 6, 0, 8, 0, 10, 12, 14, 16, 18, 20, 22)},
	}}
}

// contextOf are the slots of a context: the first six, and the first ones of its area.
func contextOf(l ...int) []int { return append(l, make([]int, 22-len(l))...) }

// longest are 32 instructions, packed; the first ones ask for all there is.
func longest() string {
	ahead := "\x01\x3f\x02\x07\x03\x3f\x08\xfc\x0a\x1f\x10\x07"
	return ahead + strings.Repeat("\x07\x00", 25) + "\x0e\x00"
}

func manyLits() []int {
	l := make([]int, 64)
	for k := range l {
		l[k] = 2*k - 31
	}
	return l
}

func methods() []int { return []int{14, 20, 26} }

func contexts() []int { return []int{32, 34, 36, 38} }

// others are few's values that are neither.
func others() []int {
	return []int{0, 2, 4, 6, 8, 10, 12, 16, 18, 22, 24, 28, 30, 1, 3, 15, 21, 27, 33, 35, -1, -33, greatest, least}
}

// noValues are none of few's.
func noValues() []int {
	return []int{40, 42, 44, 512, 2097150, 2097152, 2097184, -2, -14, -32, -33 - greatest, greatest + 1, greatest + 2, least - 1, least - 2, 1 << 32, 1<<32 + 14, 1<<32 + 32, 1<<32 + 33, signed, signed + 1, signed + 32, highest - 1, highest}
}

func all() []int { return slices.Concat(methods(), contexts(), others(), noValues()) }

// places are temporaries, or instructions, that there are or not.
func places() []int {
	return []int{0, 1, 2, 3, 7, 8, 9, 15, 16, 17, 21, 22, 31, 32, 33, 63, 64, 255, 256, -1, -2, -6, -16, 1 << 32, 1<<32 + 1, signed, signed + 1, highest}
}

// turned is few, but for what do does to it.
func turned(do func(h *api.Heap)) api.Heap {
	h := few()
	do(&h)
	return h
}

// turnedObj is few, but for what do does to object i.
func turnedObj(i int, do func(o *api.Obj)) api.Heap {
	return turned(func(h *api.Heap) { do(&h.Objs[i]) })
}

func turnedSlot(i, slot, v int) api.Heap {
	return turnedObj(i, func(o *api.Obj) { o.Slots[slot] = v })
}

// mayNotBe are heaps that have few's methods and contexts, mostly, but something else is wrong.
func mayNotBe() map[string]api.Heap {
	obj := turnedObj
	return map[string]api.Heap{
		"the zero one":           {},
		"no cap":                 turned(func(h *api.Heap) { h.Cap = 0 }),
		"cap below 0":            turned(func(h *api.Heap) { h.Cap = signed }),
		"too much room":          turned(func(h *api.Heap) { h.Cap = 257 }),
		"too many objects":       turned(func(h *api.Heap) { h.Cap = 19 }),
		"257 objects":            {Cap: 257, Objs: append(few().Objs, make([]api.Obj, 237)...)},
		"very many objects":      {Cap: 22, Objs: append(few().Objs, make([]api.Obj, 100000)...)},
		"last below 0":           turned(func(h *api.Heap) { h.Last = -1 }),
		"last too high":          turned(func(h *api.Heap) { h.Last = mostOfHash + 1 }),
		"class of none":          obj(0, func(o *api.Obj) { o.Class = 40 }),
		"class a SmallInteger":   obj(7, func(o *api.Obj) { o.Class = 1 }),
		"slot of none":           turnedSlot(1, 0, 40),
		"slot far away":          turnedSlot(1, 1, highest-1),
		"literal no value":       turnedSlot(9, 0, -2),
		"area beyond sp":         turnedSlot(16, 21, 40),
		"receiver of none":       turnedSlot(16, 4, 42),
		"65 slots":               obj(15, func(o *api.Obj) { o.Slots = append(o.Slots, 0) }),
		"very many slots":        obj(1, func(o *api.Obj) { o.Slots = make([]int, 100000) }),
		"65 bytes":               obj(2, func(o *api.Obj) { o.Text = strings.Repeat("x", 65) }),
		"no kind":                obj(6, func(o *api.Obj) { o.Kind = 3 }),
		"a method of bytes":      obj(7, func(o *api.Obj) { o.Kind = 1 }),
		"a method with a text":   obj(7, func(o *api.Obj) { o.Text = "a" }),
		"a context of a float":   obj(16, func(o *api.Obj) { o.Kind = 2 }),
		"a context with bits":    obj(16, func(o *api.Obj) { o.Bits = 1 }),
		"instructions and slots": obj(8, func(o *api.Obj) { o.Slots = []int{0} }),
		"another NaN":            obj(3, func(o *api.Obj) { o.Bits = theNaN + 1 }),
		"hash below 0":           obj(0, func(o *api.Obj) { o.Hash = -1 }),
		"hash too high":          obj(16, func(o *api.Obj) { o.Hash = mostOfHash + 1 }),
	}
}

func copyOf(h api.Heap) api.Heap {
	g := h
	g.Objs = nil
	for _, o := range h.Objs {
		o.Slots = append([]int(nil), o.Slots...)
		g.Objs = append(g.Objs, o)
	}
	return g
}

// written is h, but what is told stands in the slots of the object whose ref v is.
func written(h api.Heap, v int, at map[int]int) api.Heap {
	g := copyOf(h)
	for slot, x := range at {
		g.Objs[v/2].Slots[slot] = x
	}
	return g
}

// told is a heap, in which an empty list and a nil one are the same.
func told(h api.Heap) string { return fmt.Sprintf("%+q", fmt.Sprintf("%+v", h)) }

// isSame is told == told, but soon done.
func isSame(g, h api.Heap) bool {
	isPair := func(a, b api.Obj) bool {
		return a.Class == b.Class && a.Kind == b.Kind && a.Text == b.Text && a.Bits == b.Bits && a.Hash == b.Hash && slices.Equal(a.Slots, b.Slots)
	}
	return g.Cap == h.Cap && g.Last == h.Last && slices.EqualFunc(g.Objs, h.Objs, isPair)
}

func isRefByWords(h api.Heap, v int) bool { return v%2 == 0 && v >= 0 && v < 2*len(h.Objs) }

func isValueByWords(h api.Heap, v int) bool {
	return isRefByWords(h, v) || v%2 != 0 && v >= least && v <= greatest
}

// methodByWords tells it by the chapter's words one by one.
func methodByWords(h api.Heap, m int) (api.Method, bool) {
	none := api.Method{}
	if !heap.May(h) || !isRefByWords(h, m) {
		return none, false
	}
	o := h.Objs[m/2]
	if o.Kind != 0 || len(o.Slots) != 5 {
		return none, false
	}
	var n [3]int
	for k := range 3 {
		if o.Slots[k]%2 == 0 {
			return none, false
		}
		n[k] = (o.Slots[k] - 1) / 2
	}
	if n[0] < 0 || n[0] > 63 || o.Slots[0] < 0 || n[1] > 4 || o.Slots[1] < 0 || n[2] > 8 || n[2] < n[1] || o.Slots[2] < 0 {
		return none, false
	}
	if !isRefByWords(h, o.Slots[3]) || !isRefByWords(h, o.Slots[4]) || h.Objs[o.Slots[3]/2].Kind != 1 || h.Objs[o.Slots[4]/2].Kind != 0 {
		return none, false
	}
	lits := h.Objs[o.Slots[4]/2].Slots
	l, e := code.Unpack(h.Objs[o.Slots[3]/2].Text)
	if e != api.OK || code.Check(l, len(lits), n[2]) != api.OK {
		return none, false
	}
	return api.Method{Prim: n[0], Args: n[1], Temps: n[2], Code: l, Lits: lits}, true
}

// seen is a context, by words: what its method has, its ip, and its sp.
type seen struct {
	has    api.Method
	ip, sp int
}

// seenByWords tells it by the chapter's words one by one.
func seenByWords(h api.Heap, c int) (seen, bool) {
	if !heap.May(h) || !isRefByWords(h, c) {
		return seen{}, false
	}
	o := h.Objs[c/2]
	if o.Kind != 0 || o.Class != 12 || len(o.Slots) != 22 {
		return seen{}, false
	}
	s := o.Slots
	has, ok := methodByWords(h, s[3])
	if !ok || !isRefByWords(h, s[0]) || !isRefByWords(h, s[5]) || s[1]%2 == 0 || s[2]%2 == 0 {
		return seen{}, false
	}
	x := seen{has, (s[1] - 1) / 2, (s[2] - 1) / 2}
	return x, s[1] > 0 && s[2] > 0 && x.ip < len(has.Code) && x.sp >= has.Temps && x.sp <= 16
}

// answer is what a call answers.
type answer struct {
	h     api.Heap
	v     int
	instr api.Instr
	e     api.Errno
}

func (a answer) isSame(b answer) bool {
	return a.v == b.v && a.instr == b.instr && a.e == b.e && isSame(a.h, b.h)
}

func (a answer) told() string {
	return fmt.Sprintf("%d, %v, error %d, %s", a.v, a.instr, a.e, told(a.h))
}

// newByWords is New told a second time.
func newByWords(h api.Heap, sender, m, receiver, home int, args []int) answer {
	has, ok := methodByWords(h, m)
	if !ok || len(args) != has.Args {
		return answer{h: h, e: api.ErrFrame}
	}
	for _, v := range append([]int{receiver}, args...) {
		if !isValueByWords(h, v) {
			return answer{h: h, e: api.ErrRef}
		}
	}
	for _, v := range []int{sender, home, 12} {
		if !isRefByWords(h, v) {
			return answer{h: h, e: api.ErrRef}
		}
	}
	if len(h.Objs) == h.Cap {
		return answer{h: h, e: api.ErrFull}
	}
	g := copyOf(h)
	c := 2 * len(g.Objs)
	g.Last = (g.Last*69069 + 12345) % 1073741824
	if home == 0 {
		home = c
	}
	slots := contextOf(append([]int{sender, 1, 2*has.Temps + 1, m, receiver, home}, args...)...)
	g.Objs = append(g.Objs, api.Obj{Class: 12, Slots: slots, Hash: g.Last})
	return answer{h: g, v: c}
}

func pushByWords(h api.Heap, c, v int) answer {
	x, ok := seenByWords(h, c)
	switch {
	case !ok:
		return answer{h: h, e: api.ErrFrame}
	case !isValueByWords(h, v):
		return answer{h: h, e: api.ErrRef}
	case x.sp > 15:
		return answer{h: h, e: api.ErrStack}
	}
	return answer{h: written(h, c, map[int]int{2: 2*(x.sp+1) + 1, 6 + x.sp: v})}
}

func popByWords(h api.Heap, c int) answer {
	x, ok := seenByWords(h, c)
	switch {
	case !ok:
		return answer{h: h, e: api.ErrFrame}
	case x.sp == x.has.Temps:
		return answer{h: h, e: api.ErrStack}
	}
	return answer{h: written(h, c, map[int]int{2: 2*(x.sp-1) + 1, 5 + x.sp: 0}), v: h.Objs[c/2].Slots[5+x.sp]}
}

// tempByWords has no heap, as Temp answers none.
func tempByWords(h api.Heap, c, k int) answer {
	x, ok := seenByWords(h, c)
	switch {
	case !ok:
		return answer{e: api.ErrFrame}
	case k < 0 || k > x.has.Temps-1:
		return answer{e: api.ErrStack}
	}
	return answer{v: h.Objs[c/2].Slots[6+k]}
}

func setTempByWords(h api.Heap, c, k, v int) answer {
	x, ok := seenByWords(h, c)
	switch {
	case !ok:
		return answer{h: h, e: api.ErrFrame}
	case !isValueByWords(h, v):
		return answer{h: h, e: api.ErrRef}
	case k < 0 || k > x.has.Temps-1:
		return answer{h: h, e: api.ErrStack}
	}
	return answer{h: written(h, c, map[int]int{6 + k: v})}
}

func goByWords(h api.Heap, c, ip int) answer {
	x, ok := seenByWords(h, c)
	if !ok || ip < 0 || ip > len(x.has.Code)-1 {
		return answer{h: h, e: api.ErrFrame}
	}
	return answer{h: written(h, c, map[int]int{1: 2*ip + 1})}
}

func atByWords(h api.Heap, c int) answer {
	x, ok := seenByWords(h, c)
	if !ok {
		return answer{e: api.ErrFrame}
	}
	return answer{v: x.ip, instr: x.has.Code[x.ip]}
}

func wantMethod(t *testing.T, what string, h api.Heap, m int, want api.Method, ok bool) {
	t.Helper()
	e := api.ErrFrame
	if ok {
		e = api.OK
	}
	got, f := Method(h, m)
	same := got.Prim == want.Prim && got.Args == want.Args && got.Temps == want.Temps && slices.Equal(got.Code, want.Code) && slices.Equal(got.Lits, want.Lits)
	if !same || f != e {
		t.Fatalf("%s: Method of %d: %v, error %d; want %v, error %d", what, m, got, f, want, e)
	}
}

func wantMay(t *testing.T, what string, h api.Heap, c int, want bool) {
	t.Helper()
	if May(h, c) != want {
		t.Fatalf("%s: May of %d: %v", what, c, !want)
	}
}

// wantCall holds what a call answers of h against what is to come of it, and looks whether h stays as it was.
func wantCall(t *testing.T, what string, h api.Heap, do func(h api.Heap) answer, want answer) {
	t.Helper()
	before := copyOf(h)
	if got := do(h); !got.isSame(want) {
		t.Fatalf("%s: %s; want %s", what, got.told(), want.told())
	}
	if !isSame(h, before) {
		t.Fatalf("%s: the heap has changed to\n%s; it was\n%s", what, told(h), told(before))
	}
}

func wantNew(t *testing.T, what string, h api.Heap, sender, m, receiver, home int, args []int, want answer) {
	t.Helper()
	before := slices.Clone(args)
	what = fmt.Sprintf("%s: New of %d, %d, %d, %d, %v", what, sender, m, receiver, home, args)
	wantCall(t, what, h, func(h api.Heap) answer {
		g, c, e := New(h, sender, m, receiver, home, args)
		return answer{h: g, v: c, e: e}
	}, want)
	if !slices.Equal(args, before) {
		t.Fatalf("%s: the arguments have changed to %v", what, args)
	}
}

func wantPush(t *testing.T, what string, h api.Heap, c, v int, want answer) {
	t.Helper()
	wantCall(t, fmt.Sprintf("%s: Push on %d of %d", what, c, v), h, func(h api.Heap) answer {
		g, e := Push(h, c, v)
		return answer{h: g, e: e}
	}, want)
}

func wantPop(t *testing.T, what string, h api.Heap, c int, want answer) {
	t.Helper()
	wantCall(t, fmt.Sprintf("%s: Pop of %d", what, c), h, func(h api.Heap) answer {
		g, v, e := Pop(h, c)
		return answer{h: g, v: v, e: e}
	}, want)
}

func wantTemp(t *testing.T, what string, h api.Heap, c, k int, want answer) {
	t.Helper()
	wantCall(t, fmt.Sprintf("%s: Temp of %d, %d", what, c, k), h, func(h api.Heap) answer {
		v, e := Temp(h, c, k)
		return answer{v: v, e: e}
	}, want)
}

func wantSetTemp(t *testing.T, what string, h api.Heap, c, k, v int, want answer) {
	t.Helper()
	wantCall(t, fmt.Sprintf("%s: SetTemp of %d, %d, %d", what, c, k, v), h, func(h api.Heap) answer {
		g, e := SetTemp(h, c, k, v)
		return answer{h: g, e: e}
	}, want)
}

func wantGo(t *testing.T, what string, h api.Heap, c, ip int, want answer) {
	t.Helper()
	wantCall(t, fmt.Sprintf("%s: Go of %d, %d", what, c, ip), h, func(h api.Heap) answer {
		g, e := Go(h, c, ip)
		return answer{h: g, e: e}
	}, want)
}

func wantAt(t *testing.T, what string, h api.Heap, c int, want answer) {
	t.Helper()
	wantCall(t, fmt.Sprintf("%s: At of %d", what, c), h, func(h api.Heap) answer {
		ip, instr, e := At(h, c)
		return answer{v: ip, instr: instr, e: e}
	}, want)
}

// wantSeen holds all that is told of c against the chapter's words.
func wantSeen(t *testing.T, what string, h api.Heap, c int) {
	t.Helper()
	_, ok := seenByWords(h, c)
	wantMay(t, what, h, c, ok)
	wantPush(t, what, h, c, 7, pushByWords(h, c, 7))
	wantPop(t, what, h, c, popByWords(h, c))
	wantTemp(t, what, h, c, 0, tempByWords(h, c, 0))
	wantSetTemp(t, what, h, c, 0, 7, setTempByWords(h, c, 0, 7))
	wantGo(t, what, h, c, 0, goByWords(h, c, 0))
	wantAt(t, what, h, c, atByWords(h, c))
}

// wantHas holds what is told of the method m against the chapter's words.
func wantHas(t *testing.T, what string, h api.Heap, m int) {
	t.Helper()
	has, ok := methodByWords(h, m)
	wantMethod(t, what, h, m, has, ok)
	args := make([]int, has.Args)
	wantNew(t, what, h, 0, m, 7, 0, args, newByWords(h, 0, m, 7, 0, args))
}

// spread is a row of bits all over, the same in each run.
type spread uint64

func (s *spread) next() int {
	*s += 0x9e3779b97f4a7c15
	z := uint64(*s)
	z = (z ^ z>>30) * 0xbf58476d1ce4e5b9
	z = (z ^ z>>27) * 0x94d049bb133111eb
	return int(z ^ z>>31)
}

func (s *spread) below(n int) int { return int(uint64(s.next()) % uint64(n)) }

func (s *spread) of(l []int) int { return l[s.below(len(l))] }

// anyInt is one of all, one near 0, or one of all bits.
func (s *spread) anyInt() int {
	switch s.below(4) {
	case 0:
		return s.next()
	case 1:
		return s.below(80) - 20
	}
	return s.of(all())
}

// heap is few, but for some slots, or one that may not be.
func (s *spread) heap() api.Heap {
	if s.below(20) == 0 {
		l := mayNotBe()
		names := []string{"the zero one", "no cap", "area beyond sp", "a method of bytes", "a context with bits"}
		return l[names[s.below(len(names))]]
	}
	h := few()
	for range s.below(4) {
		if o := &h.Objs[s.below(len(h.Objs))]; len(o.Slots) > 0 {
			o.Slots[s.below(min(7, len(o.Slots)))] = []int{s.below(40), s.below(20)*2 + 1, s.of(others())}[s.below(3)]
		}
	}
	return h
}
