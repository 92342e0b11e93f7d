package prim_test

import (
	"anamnesis/api"
	"anamnesis/heap"
	"anamnesis/prim"
	"fmt"
	"math"
	"slices"
	"strings"
	"testing"
)

// The bounds stand here as numbers of their own, so that a test doesn't follow the code into a mistake.
const (
	mostOfHash = 1073741823
	greatest   = 2147483647  // the value of the greatest SmallInteger
	least      = -2147483647 // of the least one
	theNaN     = 9221120237041090561
	infinite   = 2047 << 52
	signed     = -1 << 63
	highest    = 1<<63 - 1
	yes        = 2
	no         = 4
)

// few is a heap of the 12 first objects, classes (24, 26, 28), what is almost one (30, 32), texts (34, 36, 38), floats (40 to 54, 62), slots (56, 58, 60), and room for two objects more.
func few() api.Heap {
	return api.Heap{Cap: 34, Last: 77, Objs: []api.Obj{
		0:  {Class: 24},
		1:  {Hash: 1},
		2:  {Class: 2, Hash: 2},
		3:  {Slots: []int{0, 0, 1}, Hash: 3},
		4:  {Class: 26, Slots: []int{24, 0, 1}},
		5:  {Slots: []int{0, 0, 5}},
		6:  {Class: 6, Slots: []int{0, 28, 45}},
		7:  {Slots: []int{0, 0, 9}},
		8:  {Slots: []int{0, 0, 5}},
		9:  {Kind: 1, Text: "array"},
		10: {Class: 8, Kind: 2, Bits: bitsOf(2)},
		11: {Kind: 1, Text: "dnu", Hash: 77},
		12: {Class: 24, Slots: []int{6, 0, 5}, Hash: 12},
		13: {Class: 24, Slots: []int{24, 28, 129}},
		14: {Class: 28, Slots: []int{26, 56, 1, 9, 9}},
		15: {Class: 24, Slots: []int{24, 0, 131}},
		16: {Class: 24, Slots: []int{24, 34, 5}},
		17: {Class: 20, Kind: 1, Text: "a\x00\xffz", Hash: 4},
		18: {Class: 20, Kind: 1},
		19: {Class: 20, Kind: 1, Text: strings.Repeat("ab", 32)},
		20: {Class: 8, Kind: 2, Bits: bitsOf(1.5), Hash: 20},
		21: {Class: 8, Kind: 2, Bits: signed},
		22: {Class: 24, Kind: 2, Bits: theNaN},
		23: {Class: 8, Kind: 2, Bits: infinite},
		24: {Class: 8, Kind: 2, Bits: bitsOf(1<<30 - 0.5)},
		25: {Class: 8, Kind: 2, Bits: bitsOf(1 << 30)},
		26: {Class: 8, Kind: 2, Bits: bitsOf(-1<<30 - 0.5)},
		27: {Class: 8, Kind: 2, Bits: bitsOf(-1<<30 - 1)},
		28: {Class: 24, Slots: []int{7, 56, -1}, Hash: 99},
		29: {Class: 26, Slots: slots64()},
		30: {Class: 28, Hash: mostOfHash},
		31: {Class: 8, Kind: 2, Bits: bitsOf(-3)},
	}}
}

func slots64() []int {
	l := make([]int, 64)
	for k := range l {
		l[k] = 2*k - 31
	}
	l[0], l[63] = 0, 62
	return l
}

func classes() []int { return []int{6, 8, 10, 12, 14, 16, 24, 26, 28} }

// values are few's: all refs, and SmallIntegers near what bounds there are.
func values() []int {
	l := smalls()
	for i := range few().Objs {
		l = append(l, 2*i)
	}
	return l
}

func smalls() []int {
	return []int{1, 3, 5, 7, 9, 11, -1, -3, -5, -13, 127, 129, 131, 509, 511, 513, 65535, 65537, -65537, greatest, greatest - 2, least, least + 2}
}

// noValues are none of few's.
func noValues() []int {
	return []int{64, 66, 68, 512, 2097150, 2097152, -2, -4, -24, -64, greatest + 1, greatest + 2, least - 1, least - 2, 1 << 32, 1<<32 + 1, 1<<32 + 2, 1<<32 + 24, signed, signed + 1, signed + 2, highest - 1, highest}
}

// noNumbers are those of no primitive.
func noNumbers() []int {
	return []int{0, 28, 29, 40, 52, 63, 64, 255, 256, 257, -1, -2, -27, -256, 1 << 32, 1<<32 + 1, 1<<32 + 13, signed, signed + 1, signed + 13, highest, highest - 1}
}

// countByWords is how many arguments a primitive takes, by the chapter's words; -1, if there is none.
func countByWords(num int) int {
	switch num {
	case 10, 11, 13, 15, 23, 24:
		return 0
	case 1, 2, 3, 4, 5, 6, 7, 8, 12, 14, 16, 17, 18, 19, 20, 21, 22, 25, 27:
		return 1
	case 9, 26:
		return 2
	}
	return -1
}

// turned is few, but for what do does to it.
func turned(do func(h *api.Heap)) api.Heap {
	h := few()
	do(&h)
	return h
}

// turnedObj is few, but for what do does to object i.
func turnedObj(i int, do func(o *api.Obj)) api.Heap {
	return turned(func(h *api.Heap) { do(&h.Objs[i]) })
}

func turnedSlot(i, slot, v int) api.Heap {
	return turnedObj(i, func(o *api.Obj) { o.Slots[slot] = v })
}

// full is few without room.
func full() api.Heap { return turned(func(h *api.Heap) { h.Cap = len(h.Objs) }) }

// more is few with o behind all others, that has got the next hash.
func more(o api.Obj) api.Heap {
	return turned(func(h *api.Heap) { *h = withMore(*h, o) })
}

func withMore(h api.Heap, o api.Obj) api.Heap {
	g := copyOf(h)
	g.Last = (g.Last*69069 + 12345) % 1073741824
	o.Hash = g.Last
	g.Objs = append(g.Objs, o)
	return g
}

// mayNotBe are heaps that have few's objects, mostly, but something else is wrong.
func mayNotBe() map[string]api.Heap {
	obj := turnedObj
	return map[string]api.Heap{
		"the zero one":         {},
		"no cap":               turned(func(h *api.Heap) { h.Cap = 0 }),
		"cap below 0":          turned(func(h *api.Heap) { h.Cap = signed }),
		"too much room":        turned(func(h *api.Heap) { h.Cap = 257 }),
		"too many objects":     turned(func(h *api.Heap) { h.Cap = 31 }),
		"257 objects":          {Cap: 257, Objs: append(few().Objs, make([]api.Obj, 225)...)},
		"very many objects":    {Cap: 34, Objs: append(few().Objs, make([]api.Obj, 1000)...)},
		"last below 0":         turned(func(h *api.Heap) { h.Last = -1 }),
		"last too high":        turned(func(h *api.Heap) { h.Last = mostOfHash + 1 }),
		"class of none":        obj(0, func(o *api.Obj) { o.Class = 64 }),
		"class a SmallInteger": obj(28, func(o *api.Obj) { o.Class = 1 }),
		"slot of none":         turnedSlot(28, 0, 64),
		"slot far away":        turnedSlot(28, 2, highest-1),
		"slot no value":        turnedSlot(29, 63, -2),
		"65 slots":             obj(29, func(o *api.Obj) { o.Slots = append(o.Slots, 0) }),
		"very many slots":      obj(1, func(o *api.Obj) { o.Slots = make([]int, 1000) }),
		"65 bytes":             obj(19, func(o *api.Obj) { o.Text += "x" }),
		"no kind":              obj(6, func(o *api.Obj) { *o = api.Obj{Kind: 3} }),
		"kind below 0":         obj(6, func(o *api.Obj) { *o = api.Obj{Kind: -1} }),
		"slots and bits":       obj(28, func(o *api.Obj) { o.Bits = 1 }),
		"slots and a text":     obj(28, func(o *api.Obj) { o.Text = "a" }),
		"a float with slots":   obj(20, func(o *api.Obj) { o.Slots = []int{0} }),
		"another NaN":          obj(22, func(o *api.Obj) { o.Bits++ }),
		"a NaN with a sign":    obj(22, func(o *api.Obj) { o.Bits |= signed }),
		"hash below 0":         obj(0, func(o *api.Obj) { o.Hash = -1 }),
		"hash too high":        obj(28, func(o *api.Obj) { o.Hash = mostOfHash + 1 }),
	}
}

func copyOf(h api.Heap) api.Heap {
	g := h
	g.Objs = nil
	for _, o := range h.Objs {
		o.Slots = append([]int(nil), o.Slots...)
		g.Objs = append(g.Objs, o)
	}
	return g
}

// told is a heap, in which an empty list and a nil one are the same.
func told(h api.Heap) string { return fmt.Sprintf("%+q", fmt.Sprintf("%+v", h)) }

// isSame is told == told, but soon done.
func isSame(g, h api.Heap) bool {
	isPair := func(a, b api.Obj) bool {
		return a.Class == b.Class && a.Kind == b.Kind && a.Text == b.Text && a.Bits == b.Bits && a.Hash == b.Hash && slices.Equal(a.Slots, b.Slots)
	}
	return g.Cap == h.Cap && g.Last == h.Last && slices.EqualFunc(g.Objs, h.Objs, isPair)
}

// bitsOf has the one NaN alone.
func bitsOf(x float64) int {
	if x != x {
		return theNaN
	}
	return int(math.Float64bits(x))
}

// answer is what Do answers.
type answer struct {
	h api.Heap
	v int
	e api.Errno
}

// failure is that of a primitive that fails in h.
func failure(h api.Heap) answer { return answer{h: h, e: api.ErrPrim} }

func isRefByWords(h api.Heap, v int) bool { return v%2 == 0 && v >= 0 && v < 2*len(h.Objs) }

func isSmallByWords(v int) bool { return v%2 != 0 && v >= least && v <= greatest }

func isValueByWords(h api.Heap, v int) bool { return isRefByWords(h, v) || isSmallByWords(v) }

func truthByWords(is bool) int {
	if is {
		return yes
	}
	return no
}

// isClassByWords tells it by chapter 9's words one by one.
func isClassByWords(h api.Heap, c int) bool {
	if !isRefByWords(h, c) || h.Objs[c/2].Kind != 0 || len(h.Objs[c/2].Slots) < 3 {
		return false
	}
	s := h.Objs[c/2].Slots
	isDictionary := s[1] == 0 || isRefByWords(h, s[1]) && h.Objs[s[1]/2].Kind == 0
	return isRefByWords(h, s[0]) && isDictionary && s[2]%2 != 0 && s[2] >= 1 && s[2] <= 129
}

// doByWords is Do told a second time, by the chapter's words one by one.
func doByWords(h api.Heap, num, self int, args []int) answer {
	if !heap.May(h) || len(h.Objs) < 12 {
		return answer{e: api.ErrArg}
	}
	for _, v := range append([]int{self}, args...) {
		if !isValueByWords(h, v) {
			return answer{e: api.ErrArg}
		}
	}
	if countByWords(num) != len(args) {
		return failure(h)
	}
	a, b := 0, 0
	if len(args) > 0 {
		a = args[0]
	}
	if len(args) > 1 {
		b = args[1]
	}
	switch {
	case num <= 7:
		return wholeByWords(h, num, self, a)
	case num <= 10, num == 25, num == 26:
		return partByWords(h, num, self, a, b)
	case num <= 12, num == 27:
		return instanceByWords(h, num, self, a)
	case num <= 16:
		return objectByWords(h, num, self, a)
	}
	return floatByWords(h, num, self, a)
}

// wholeByWords tells primitives 1 to 7.
func wholeByWords(h api.Heap, num, self, arg int) answer {
	if !isSmallByWords(self) || !isSmallByWords(arg) {
		return failure(h)
	}
	s, a := (self-1)/2, (arg-1)/2
	var n int
	switch num {
	case 1:
		n = s + a
	case 2:
		n = s - a
	case 3:
		n = s * a
	case 4, 5:
		if a == 0 {
			return failure(h)
		}
		q, left := dividedByWords(s, a)
		n = []int{q, left}[num-4]
	case 6:
		return answer{h: h, v: truthByWords(s < a)}
	case 7:
		return answer{h: h, v: truthByWords(s == a)}
	}
	if n < -1073741824 || n > 1073741823 {
		return failure(h)
	}
	return answer{h: h, v: 2*n + 1}
}

// dividedByWords tries what is near: what is left is 0, or of a's sign, and nearer to 0 than a.
func dividedByWords(s, a int) (q, left int) {
	for q = s/a - 1; q <= s/a+1; q++ {
		left = s - q*a
		if left == 0 || (left > 0) == (a > 0) && max(left, -left) < max(a, -a) {
			return q, left
		}
	}
	panic("nothing is near")
}

// partByWords tells primitives 8 to 10, 25, and 26.
func partByWords(h api.Heap, num, self, a, b int) answer {
	if !isRefByWords(h, self) {
		return failure(h)
	}
	o := h.Objs[self/2]
	size := len(o.Slots)
	if o.Kind == 1 {
		size = len(o.Text)
	}
	if num == 10 {
		if o.Kind == 2 {
			return failure(h)
		}
		return answer{h: h, v: 2*size + 1}
	}
	wanted := 0
	if num >= 25 {
		wanted = 1
	}
	if o.Kind != wanted || a%2 == 0 || a < 3 || a > 2*size+1 {
		return failure(h)
	}
	k := a/2 - 1
	g := copyOf(h)
	switch num {
	case 8:
		return answer{h: h, v: o.Slots[k]}
	case 25:
		return answer{h: h, v: 2*int(o.Text[k]) + 1}
	case 26:
		if b%2 == 0 || b < 1 || b > 511 {
			return failure(h)
		}
		g.Objs[self/2].Text = o.Text[:k] + string([]byte{byte(b / 2)}) + o.Text[k+1:]
	case 9:
		g.Objs[self/2].Slots[k] = b
	}
	return answer{h: g, v: b}
}

// instanceByWords tells primitives 11, 12, and 27.
func instanceByWords(h api.Heap, num, self, a int) answer {
	if !isClassByWords(h, self) {
		return failure(h)
	}
	if num == 11 {
		a = h.Objs[self/2].Slots[2]
	}
	if a%2 == 0 || a < 1 || a > 129 {
		return failure(h)
	}
	if num == 27 {
		return madeByWords(h, api.Obj{Class: self, Kind: 1, Text: strings.Repeat("\x00", a/2)})
	}
	return madeByWords(h, api.Obj{Class: self, Slots: make([]int, a/2)})
}

func madeByWords(h api.Heap, o api.Obj) answer {
	if len(h.Objs) == h.Cap {
		return answer{h: h, e: api.ErrFull}
	}
	return answer{h: withMore(h, o), v: 2 * len(h.Objs)}
}

// objectByWords tells primitives 13 to 16.
func objectByWords(h api.Heap, num, self, a int) answer {
	isRef := isRefByWords(h, self)
	switch {
	case num == 13 && isRef:
		return answer{h: h, v: h.Objs[self/2].Class}
	case num == 13:
		return answer{h: h, v: 6}
	case num == 14:
		return answer{h: h, v: truthByWords(self == a)}
	case num == 15 && isRef:
		return answer{h: h, v: 2*h.Objs[self/2].Hash + 1}
	case num == 15:
		return answer{h: h, v: self}
	case !isRef || !isRefByWords(h, a) || self < 24 || a < 24:
		return failure(h)
	}
	g := copyOf(h)
	g.Objs[self/2], g.Objs[a/2] = copyOf(h).Objs[a/2], copyOf(h).Objs[self/2]
	return answer{h: g, v: self}
}

// floatedByWords is the float of a value, and whether it has one.
func floatedByWords(h api.Heap, v int) (float64, bool) {
	if isSmallByWords(v) {
		return float64((v - 1) / 2), true
	}
	return math.Float64frombits(uint64(h.Objs[v/2].Bits)), h.Objs[v/2].Kind == 2
}

// floatByWords tells primitives 17 to 24.
func floatByWords(h api.Heap, num, self, a int) answer {
	x, ok := floatedByWords(h, self)
	y, both := floatedByWords(h, a)
	if !ok || !both && countByWords(num) == 1 {
		return failure(h)
	}
	switch num {
	case 17:
		x += y
	case 18:
		x -= y
	case 19:
		x *= y
	case 20:
		x /= y
	case 21:
		return answer{h: h, v: truthByWords(x < y)}
	case 22:
		return answer{h: h, v: truthByWords(x == y)}
	case 23:
		if n := math.Trunc(x); n >= -1073741824 && n <= 1073741823 {
			return answer{h: h, v: 2*int(n) + 1}
		}
		return failure(h)
	}
	return madeByWords(h, api.Obj{Class: 8, Kind: 2, Bits: bitsOf(x)})
}

// wantDo holds what Do answers against what is to come of it, and looks whether its arguments stay as they were.
func wantDo(t *testing.T, what string, h api.Heap, num, self int, args []int, want answer) {
	t.Helper()
	before, beforeArgs := copyOf(h), slices.Clone(args)
	g, v, e := prim.Do(h, num, self, args)
	if v != want.v || e != want.e || !isSame(g, want.h) {
		t.Fatalf("%s: %d of %d, %v: %d, error %d, %s; want %d, error %d, %s", what, num, self, args, v, e, told(g), want.v, want.e, told(want.h))
	}
	if !isSame(h, before) || !slices.Equal(args, beforeArgs) {
		t.Fatalf("%s: %d of %d, %v: the arguments have changed to %v and\n%s; it was\n%s", what, num, self, beforeArgs, args, told(h), told(before))
	}
}

// wantWords holds what Do answers against the chapter's words.
func wantWords(t *testing.T, what string, h api.Heap, num, self int, args ...int) {
	t.Helper()
	wantDo(t, what, h, num, self, args, doByWords(h, num, self, args))
}

// spread is a row of bits all over, the same in each run.
type spread uint64

func (s *spread) next() int {
	*s += 0x9e3779b97f4a7c15
	z := uint64(*s)
	z = (z ^ z>>30) * 0xbf58476d1ce4e5b9
	z = (z ^ z>>27) * 0x94d049bb133111eb
	return int(z ^ z>>31)
}

func (s *spread) below(n int) int { return int(uint64(s.next()) % uint64(n)) }

func (s *spread) of(l []int) int { return l[s.below(len(l))] }

// anyInt is one of all, one near 0, or one of all bits.
func (s *spread) anyInt() int {
	switch s.below(4) {
	case 0:
		return s.next()
	case 1:
		return s.below(80) - 10
	case 2:
		return s.of(noValues())
	}
	return s.of(values())
}

// valueOf is a value of h.
func (s *spread) valueOf(h api.Heap) int {
	switch s.below(4) {
	case 0:
		return s.of(smalls())
	case 1:
		return 2*s.below(8) + 1
	}
	return 2 * s.below(len(h.Objs))
}
