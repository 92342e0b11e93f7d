package shape_test

import (
	"anamnesis/api"
	"anamnesis/heap"
	"anamnesis/shape"
	"fmt"
	"slices"
	"strings"
	"testing"
)

// The bounds stand here as numbers of their own, so that a test doesn't follow the code into a mistake.
const (
	mostOfHash  = 1073741823
	greatest    = 2147483647  // the value of the greatest SmallInteger
	least       = -2147483647 // of the least one
	mostOfSteps = 1099511627776
	mostOfUsed  = 1000
	mostOfHalt  = 255
	theNaN      = 9221120237041090561
	signed      = -1 << 63
	highest     = 1<<63 - 1
	noState     = 150 // the error ErrState
)

// few is a state of the 12 first objects, of what these reach (12, 13), what beyond that Proc alone reaches (15, 17, 18), what Ready alone does (21 to 23), and what nobody does (14, 16, 19, 20, 24).
func few() api.State {
	return api.State{Proc: 30, Ready: 42, Halt: 173, Steps: 1000003, Used: 7, Heap: api.Heap{Cap: 27, Last: 77, Objs: []api.Obj{
		0:  {Class: 24, Hash: 5},
		1:  {Hash: 1},
		2:  {Class: 2, Hash: 2},
		3:  {Slots: []int{0, 0, 1}, Hash: 3},
		4:  {Class: 8, Slots: []int{26, -1, 1}},
		5:  {Kind: 1, Text: "block"},
		6:  {Slots: []int{0, 7, -1, 5}},
		7:  {Slots: []int{4, 2, 9, 10}, Hash: mostOfHash},
		8:  {Slots: []int{22, 20, 5}},
		9:  {Kind: 1, Text: "array"},
		10: {Class: 8, Kind: 2, Bits: 1 << 62},
		11: {Kind: 1, Text: "dnu", Hash: 77},
		12: {Class: 24, Slots: []int{}},
		13: {Class: 6, Kind: 1, Text: "a\x00\x1e\xff", Hash: 9},
		14: {Class: 32, Slots: []int{28, 40, 30, 3}},
		15: {Class: 14, Slots: []int{0, 34, 7, 0}, Hash: 10},
		16: {Class: 34, Slots: []int{28, 2}},
		17: {Class: 36, Slots: []int{30, greatest, least, 34, 31}},
		18: {Class: 8, Kind: 2, Bits: theNaN, Hash: 11},
		19: {Class: 38, Kind: 2, Bits: 42},
		20: {Class: 42, Kind: 1, Text: "gone"},
		21: {Class: 14, Slots: []int{44, 2, 5, 0}, Hash: 12},
		22: {Class: 14, Slots: []int{0, 46, 5, 42}, Hash: 13},
		23: {Class: 46, Slots: []int{46, 26}, Hash: 14},
		24: {Class: 14, Slots: []int{30, 42, 3, 28}},
	}}}
}

// least12 is the state of the chapter's example: 12 objects, all else 0, but that there must be room for them.
func least12() api.State {
	return api.State{Heap: api.Heap{Cap: 12, Objs: make([]api.Obj, 12)}}
}

// turned is few, but for what do does to it.
func turned(do func(s *api.State)) api.State {
	s := few()
	do(&s)
	return s
}

// turnedObj is few, but for what do does to object i.
func turnedObj(i int, do func(o *api.Obj)) api.State {
	return turned(func(s *api.State) { do(&s.Heap.Objs[i]) })
}

// noRefs are those of none of few's objects.
func noRefs() []int {
	return []int{50, 52, 54, 512, 2097148, 2097150, 2097152, -2, -4, -30, 1, 3, 15, 31, 43, -1, -31, greatest, least, greatest + 1, least - 1, 1 << 32, 1<<32 + 30, 1<<32 + 31, signed, signed + 30, signed + 31, highest, highest - 1}
}

// mayNotBe are states in which one thing is wrong, or more.
func mayNotBe() map[string]api.State {
	obj := turnedObj
	h := func(do func(h *api.Heap)) api.State { return turned(func(s *api.State) { do(&s.Heap) }) }
	l := map[string]api.State{
		"the zero one":           {},
		"a heap alone":           {Heap: api.Heap{Cap: 12}},
		"no room":                h(func(h *api.Heap) { h.Cap = 0 }),
		"room below 0":           h(func(h *api.Heap) { h.Cap = signed }),
		"too much room":          h(func(h *api.Heap) { h.Cap = 257 }),
		"too many objects":       h(func(h *api.Heap) { h.Cap = 24 }),
		"257 objects":            h(func(h *api.Heap) { h.Cap, h.Objs = 257, append(h.Objs, make([]api.Obj, 232)...) }),
		"very many objects":      h(func(h *api.Heap) { h.Objs = append(h.Objs, make([]api.Obj, 1000)...) }),
		"last below 0":           h(func(h *api.Heap) { h.Last = -1 }),
		"last too high":          h(func(h *api.Heap) { h.Last = mostOfHash + 1 }),
		"class of none":          obj(0, func(o *api.Obj) { o.Class = 50 }),
		"class a SmallInteger":   obj(15, func(o *api.Obj) { o.Class = 1 }),
		"slot of none":           obj(21, func(o *api.Obj) { o.Slots[0] = 50 }),
		"slot no value":          obj(17, func(o *api.Obj) { o.Slots[1] = greatest + 2 }),
		"slot not reached":       obj(14, func(o *api.Obj) { o.Slots[0] = 50 }),
		"class not reached":      obj(24, func(o *api.Obj) { o.Class = -2 }),
		"65 slots":               obj(12, func(o *api.Obj) { o.Slots = make([]int, 65) }),
		"65 bytes":               obj(5, func(o *api.Obj) { o.Text = strings.Repeat("x", 65) }),
		"no kind":                obj(1, func(o *api.Obj) { *o = api.Obj{Kind: 3} }),
		"kind below 0":           obj(1, func(o *api.Obj) { *o = api.Obj{Kind: -1} }),
		"bytes with slots":       obj(15, func(o *api.Obj) { o.Kind = 1 }),
		"slots and bits":         obj(15, func(o *api.Obj) { o.Bits = 1 }),
		"slots and a text":       obj(21, func(o *api.Obj) { o.Text = "a" }),
		"another NaN":            obj(18, func(o *api.Obj) { o.Bits++ }),
		"another NaN, not met":   obj(19, func(o *api.Obj) { o.Bits = theNaN + 1 }),
		"hash below 0":           obj(0, func(o *api.Obj) { o.Hash = -1 }),
		"hash too high":          obj(24, func(o *api.Obj) { o.Hash = mostOfHash + 1 }),
		"proc and ready of none": turned(func(s *api.State) { s.Proc, s.Ready = 50, 50 }),
		"all numbers below 0":    turned(func(s *api.State) { s.Halt, s.Steps, s.Used = -1, -1, -1 }),
		"11 objects, and room":   cutTo(11, 12),
	}
	for n := range 12 {
		if n > 0 {
			l[fmt.Sprint("as much room as objects: ", n)] = cutTo(n, n)
		}
		l[fmt.Sprint("all room, but objects: ", n)] = cutTo(n, 256)
	}
	for _, v := range noRefs() {
		l[fmt.Sprint("proc ", v)] = turned(func(s *api.State) { s.Proc = v })
		l[fmt.Sprint("ready ", v)] = turned(func(s *api.State) { s.Ready = v })
	}
	low, high := []int{-1, -2, -1 << 32, signed, signed + 1}, []int{highest, highest - 1, 1 << 62}
	for _, n := range slices.Concat(low, high, []int{mostOfSteps + 1, mostOfSteps + 2, 2 * mostOfSteps}) {
		l[fmt.Sprint("steps ", n)] = turned(func(s *api.State) { s.Steps = n })
	}
	for _, n := range slices.Concat(low, high, []int{1001, 1002, 1024, 1 << 32, mostOfSteps}) {
		l[fmt.Sprint("used ", n)] = turned(func(s *api.State) { s.Used = n })
	}
	for _, n := range slices.Concat(low, high, []int{256, 257, 429, 1000, 1 << 16, 1 << 32, mostOfSteps}) {
		l[fmt.Sprint("halt ", n)] = turned(func(s *api.State) { s.Halt = api.Errno(n) })
	}
	return l
}

// cutTo is a state of n objects that hold object 0 at most, and so much room.
func cutTo(n, room int) api.State {
	return api.State{Heap: api.Heap{Cap: room, Objs: make([]api.Obj, n)}}
}

func copyOf(s api.State) api.State {
	c := s
	c.Heap.Objs = nil
	for _, o := range s.Heap.Objs {
		o.Slots = append([]int(nil), o.Slots...)
		c.Heap.Objs = append(c.Heap.Objs, o)
	}
	return c
}

// told is a state as a text, in which an empty list and a nil one are the same.
func told(s api.State) string { return fmt.Sprintf("%+q", fmt.Sprintf("%+v", s)) }

// isOne is told == told, but soon done.
func isOne(a, b api.State) bool {
	isPair := func(o, p api.Obj) bool {
		return o.Class == p.Class && o.Kind == p.Kind && o.Text == p.Text && o.Bits == p.Bits && o.Hash == p.Hash && slices.Equal(o.Slots, p.Slots)
	}
	return a.Proc == b.Proc && a.Ready == b.Ready && a.Halt == b.Halt && a.Steps == b.Steps && a.Used == b.Used && a.Heap.Cap == b.Heap.Cap && a.Heap.Last == b.Heap.Last && slices.EqualFunc(a.Heap.Objs, b.Heap.Objs, isPair)
}

// mayByWords tells by the chapter's words whether s may be.
func mayByWords(s api.State) bool {
	n := len(s.Heap.Objs)
	isObject := func(v int) bool { return v%2 == 0 && v >= 0 && v/2 < n }
	return heap.May(s.Heap) && n >= 12 && isObject(s.Proc) && isObject(s.Ready) && s.Halt >= 0 && s.Halt <= mostOfHalt && s.Steps >= 0 && s.Steps <= mostOfSteps && s.Used >= 0 && s.Used <= mostOfUsed
}

// rootsByWords tells Roots so.
func rootsByWords(s api.State) []int {
	if !mayByWords(s) {
		return nil
	}
	return []int{0, 2, 4, 6, 8, 10, 12, 14, 16, 18, 20, 22, s.Proc, s.Ready}
}

// reachedByWords are the numbers of the objects that are reached, rising: all are gone through till there is none more.
func reachedByWords(s api.State) []int {
	is := make([]bool, len(s.Heap.Objs))
	reach := func(l ...int) (more bool) {
		for _, v := range l {
			if v%2 == 0 && !is[v/2] {
				is[v/2], more = true, true
			}
		}
		return more
	}
	for more := reach(rootsByWords(s)...); more; {
		more = false
		for i, o := range s.Heap.Objs {
			if is[i] && reach(append([]int{o.Class}, o.Slots...)...) {
				more = true
			}
		}
	}
	var l []int
	for i := range is {
		if is[i] {
			l = append(l, i)
		}
	}
	return l
}

// left is s with those objects alone, that are told by their numbers, each at its place among these.
func left(s api.State, numbers []int) api.State {
	to := func(v int) int {
		if v%2 != 0 {
			return v
		}
		return 2 * slices.Index(numbers, v/2)
	}
	c := api.State{Proc: to(s.Proc), Ready: to(s.Ready), Halt: s.Halt, Steps: s.Steps, Used: s.Used, Heap: api.Heap{Cap: s.Heap.Cap, Last: s.Heap.Last}}
	for _, i := range numbers {
		o := s.Heap.Objs[i]
		p := api.Obj{Class: to(o.Class), Kind: o.Kind, Text: o.Text, Bits: o.Bits, Hash: o.Hash}
		for _, v := range o.Slots {
			p.Slots = append(p.Slots, to(v))
		}
		c.Heap.Objs = append(c.Heap.Objs, p)
	}
	return c
}

// sameByWords tells Same by the chapters' words: from root to root there is no choice of who is whose pair, so all that is met is held together.
func sameByWords(a, b api.State) bool {
	if !mayByWords(a) || !mayByWords(b) || a.Halt != b.Halt || a.Steps != b.Steps || a.Used != b.Used {
		return false
	}
	p, q := rootsByWords(a), rootsByWords(b)
	there, back := map[int]int{}, map[int]int{}
	for k := 0; k < len(p); k++ {
		v, w := p[k], q[k]
		if v%2 != 0 || w%2 != 0 {
			if v != w {
				return false
			}
			continue
		}
		x, met := there[v]
		y, metBack := back[w]
		if met || metBack {
			if !met || !metBack || x != w || y != v {
				return false
			}
			continue
		}
		there[v], back[w] = w, v
		o, r := a.Heap.Objs[v/2], b.Heap.Objs[w/2]
		if o.Kind != r.Kind || o.Text != r.Text || o.Bits != r.Bits || o.Hash != r.Hash || len(o.Slots) != len(r.Slots) {
			return false
		}
		p, q = append(append(p, o.Class), o.Slots...), append(append(q, r.Class), r.Slots...)
	}
	return true
}

// renumbered is s with object i at number to[i].
func renumbered(s api.State, to []int) api.State {
	at := func(v int) int {
		if v%2 != 0 {
			return v
		}
		return 2 * to[v/2]
	}
	c := copyOf(s)
	c.Proc, c.Ready = at(s.Proc), at(s.Ready)
	for i, o := range copyOf(s).Heap.Objs {
		o.Class = at(o.Class)
		for k, v := range o.Slots {
			o.Slots[k] = at(v)
		}
		c.Heap.Objs[to[i]] = o
	}
	return c
}

func wantUnchanged(t *testing.T, what string, s, before api.State) {
	t.Helper()
	if !isOne(s, before) {
		t.Fatalf("%s: the state has changed to\n%s; it was\n%s", what, told(s), told(before))
	}
}

func wantCheck(t *testing.T, what string, s api.State, may bool) {
	t.Helper()
	before := copyOf(s)
	want := api.OK
	if !may {
		want = noState
	}
	if e := shape.Check(s); e != want {
		t.Fatalf("%s: Check: error %d; want %d of\n%s", what, e, want, told(s))
	}
	wantUnchanged(t, what+": Check", s, before)
}

func wantRoots(t *testing.T, what string, s api.State, want []int) {
	t.Helper()
	before := copyOf(s)
	if l := shape.Roots(s); !slices.Equal(l, want) {
		t.Fatalf("%s: Roots: %v; want %v of\n%s", what, l, want, told(s))
	}
	wantUnchanged(t, what+": Roots", s, before)
}

func wantCollect(t *testing.T, what string, s, want api.State, wantErr api.Errno) {
	t.Helper()
	before := copyOf(s)
	c, e := shape.Collect(s)
	if e != wantErr || !isOne(c, want) {
		t.Fatalf("%s: Collect: error %d, %s; want error %d, %s", what, e, told(c), wantErr, told(want))
	}
	wantUnchanged(t, what+": Collect", s, before)
}

// wantSame holds Same, either way round, against what it is to tell.
func wantSame(t *testing.T, what string, a, b api.State, want bool) {
	t.Helper()
	before, other := copyOf(a), copyOf(b)
	if shape.Same(a, b) != want || shape.Same(b, a) != want {
		t.Fatalf("%s: Same: want %v of\n%s and\n%s", what, want, told(a), told(b))
	}
	wantUnchanged(t, what+": Same", a, before)
	wantUnchanged(t, what+": Same", b, other)
}

// wantNothing holds all calls of a state that may not be against what is to come of them.
func wantNothing(t *testing.T, what string, s api.State) {
	t.Helper()
	wantCheck(t, what, s, false)
	wantRoots(t, what, s, nil)
	wantCollect(t, what, s, api.State{}, noState)
	for _, other := range []api.State{s, few(), least12(), {}} {
		wantSame(t, what, s, other, false)
	}
}

// wantWords holds all calls of s, and of s and the others, against the chapter's words.
func wantWords(t *testing.T, what string, s api.State, others ...api.State) {
	t.Helper()
	if mayByWords(s) {
		wantCheck(t, what, s, true)
		wantRoots(t, what, s, rootsByWords(s))
		wantCollect(t, what, s, left(s, reachedByWords(s)), api.OK)
		wantSame(t, what+", itself", s, copyOf(s), true)
	} else {
		wantNothing(t, what, s)
	}
	for _, b := range others {
		wantSame(t, what, s, b, sameByWords(s, b))
	}
}

// spread is a row of bits all over, the same in each run.
type spread uint64

func (s *spread) next() int {
	*s += 0x9e3779b97f4a7c15
	z := uint64(*s)
	z = (z ^ z>>30) * 0xbf58476d1ce4e5b9
	z = (z ^ z>>27) * 0x94d049bb133111eb
	return int(z ^ z>>31)
}

func (s *spread) below(n int) int { return int(uint64(s.next()) % uint64(n)) }

func (s *spread) of(l []int) int { return l[s.below(len(l))] }

// anyInt is one near 0, one of noRefs, or one of all bits.
func (s *spread) anyInt() int {
	switch s.below(3) {
	case 0:
		return s.next()
	case 1:
		return s.below(80) - 10
	}
	return s.of(noRefs())
}

// order is the numbers below n, the first ones as they are, the others in some order.
func (s *spread) order(first, n int) []int {
	l := make([]int, n)
	for i := range l {
		l[i] = i
	}
	for i := first; i < n; i++ {
		k := i + s.below(n-i)
		l[i], l[k] = l[k], l[i]
	}
	return l
}

// values are some SmallIntegers', and refs of n objects.
func (s *spread) values(most, n int) []int {
	var l []int
	for range s.below(most) {
		if s.below(3) == 0 {
			l = append(l, 2*s.below(4*n)-4*n+1)
		} else {
			l = append(l, 2*s.below(n))
		}
	}
	return l
}

// state is one of n objects, with hashes below that. What the 12 first ones hold lies among them mostly, and classes near their objects, so that not all is reached.
func (s *spread) state(n, hashes int) api.State {
	u := api.State{Proc: 2 * s.below(n), Ready: 2 * s.below(n), Halt: api.Errno(s.below(256)), Steps: s.below(mostOfSteps + 1), Used: s.below(1001)}
	u.Heap = api.Heap{Cap: n + s.below(257-n), Last: s.below(1 << 30), Objs: make([]api.Obj, n)}
	for i := range u.Heap.Objs {
		o := api.Obj{Class: 2 * min(n-1, max(0, i+s.below(7)-3)), Kind: s.below(3), Hash: s.below(hashes)}
		held := n
		if i < 12 && s.below(8) > 0 {
			held, o.Class = 12, min(o.Class, 22)
		}
		switch o.Kind {
		case 0:
			o.Slots = s.values(4, held)
		case 1:
			o.Text = strings.Repeat("\x02", s.below(4))
		case 2:
			o.Bits = 2 * s.below(n)
		}
		u.Heap.Objs[i] = o
	}
	return u
}
