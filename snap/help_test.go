package snap

import (
	"anamnesis/api"
	"encoding/binary"
	"fmt"
	"hash/crc32"
	"slices"
	"strings"
	"testing"
)

// The bounds stand here as numbers of their own, so that a test doesn't follow the code into a mistake.
const (
	mostOfHash = 1073741823
	greatest   = 2147483647  // the value of the greatest SmallInteger
	least      = -2147483647 // of the least one
	theNaN     = 9221120237041090561
	infinite   = 2047 << 52
	signed     = -1 << 63
	highest    = 1<<63 - 1
)

// few is a heap with objects of each kind, of something and of nothing, and room for two more.
func few() api.Heap {
	return api.Heap{Cap: 9, Last: 77, Objs: []api.Obj{
		{Hash: 10},
		{Slots: []int{0, 7, 12, -1}, Hash: 11},
		{Class: 2, Kind: 1, Text: "a\x00\xffz", Hash: 12},
		{Class: 2, Kind: 2, Bits: 4607182418800017408, Hash: 13},
		{Class: 10, Kind: 1},
		{Class: 10, Slots: []int{greatest, least, 10}, Hash: mostOfHash},
		{Class: 12, Kind: 2, Bits: signed | 0x0102030405060708},
	}}
}

// turned is few, but for what do does to it.
func turned(do func(h *api.Heap)) api.Heap {
	h := few()
	do(&h)
	return h
}

// turnedObj is few, but for what do does to object i.
func turnedObj(i int, do func(o *api.Obj)) api.Heap {
	return turned(func(h *api.Heap) { do(&h.Objs[i]) })
}

// noValues are none of few's.
func noValues() []int {
	return []int{14, 16, 512, 2097150, 2097152, -2, -4, greatest + 1, greatest + 2, least - 1, least - 2, 1 << 32, 1<<32 + 1, 1<<32 + 2, signed, signed + 1, highest - 1, highest}
}

// bits are some of floats, with bytes that are told apart.
func bits() []int {
	return []int{0, 1, signed, theNaN, infinite, signed | infinite, 4607182418800017408, 0x0102030405060708, signed | 0x0102030405060708, 0x7fefffffffffffff, signed | 0x7fefffffffffffff, 1 << 31, 1 << 32, 0xffffffff, 1 << 52}
}

func mayBe() map[string]api.Heap {
	obj := turnedObj
	l := map[string]api.Heap{
		"few":               few(),
		"no objects":        {Cap: 1},
		"no objects, more":  {Cap: 256, Last: mostOfHash},
		"one":               {Cap: 3, Objs: []api.Obj{{}}},
		"full, of one":      {Cap: 1, Last: 1, Objs: []api.Obj{{Hash: 2}}},
		"full, of the most": {Cap: 256, Objs: make([]api.Obj, 256)},
		"full":              turned(func(h *api.Heap) { h.Cap = 7 }),
		"last 0":            turned(func(h *api.Heap) { h.Last = 0 }),
		"the most of last":  turned(func(h *api.Heap) { h.Last = mostOfHash }),
		"the last class":    obj(0, func(o *api.Obj) { o.Class = 12 }),
		"the most of hash":  obj(0, func(o *api.Obj) { o.Hash = mostOfHash }),
		"the most of slots": obj(0, func(o *api.Obj) { o.Slots = slices.Repeat([]int{12}, 64) }),
		"the least slots":   obj(0, func(o *api.Obj) { o.Slots = slices.Repeat([]int{least}, 63) }),
		"one slot":          obj(0, func(o *api.Obj) { o.Slots = []int{0} }),
		"the most of bytes": obj(4, func(o *api.Obj) { o.Text = strings.Repeat("\xff", 64) }),
		"one byte less":     obj(4, func(o *api.Obj) { o.Text = strings.Repeat("\x00", 63) }),
		"letters":           obj(4, func(o *api.Obj) { o.Text = "\u00e9\u4e16\U0001f600\xc3\x28" }),
		"empty lists":       turned(func(h *api.Heap) { h.Objs[0].Slots, h.Objs[2].Slots, h.Objs[3].Slots = []int{}, []int{}, []int{} }),
	}
	for _, n := range bits() {
		l[fmt.Sprintf("bits %x", uint64(n))] = obj(3, func(o *api.Obj) { o.Bits = n })
	}
	return l
}

// mayNotBe are heaps that may not be, nor what their numbers are modulo 2^32.
func mayNotBe() map[string]api.Heap {
	obj := turnedObj
	return map[string]api.Heap{
		"the zero one":          {},
		"no cap, no object":     {Last: 5},
		"cap below 0":           turned(func(h *api.Heap) { h.Cap = -1 }),
		"cap -2^63":             turned(func(h *api.Heap) { h.Cap = signed }),
		"cap too high":          turned(func(h *api.Heap) { h.Cap = 257 }),
		"too many objects":      turned(func(h *api.Heap) { h.Cap = 6 }),
		"257 objects":           {Cap: 257, Objs: make([]api.Obj, 257)},
		"very many objects":     {Cap: 256, Objs: make([]api.Obj, 5000)},
		"last below 0":          turned(func(h *api.Heap) { h.Last = -1 }),
		"last too high":         turned(func(h *api.Heap) { h.Last = mostOfHash + 1 }),
		"class of none":         obj(2, func(o *api.Obj) { o.Class = 14 }),
		"class a SmallInteger":  obj(2, func(o *api.Obj) { o.Class = 3 }),
		"slot of none":          obj(1, func(o *api.Obj) { o.Slots[2] = 14 }),
		"slot below 0":          obj(1, func(o *api.Obj) { o.Slots[0] = -2 }),
		"65 slots":              obj(0, func(o *api.Obj) { o.Slots = make([]int, 65) }),
		"very many slots":       obj(0, func(o *api.Obj) { o.Slots = make([]int, 100000) }),
		"65 bytes":              obj(4, func(o *api.Obj) { o.Text = strings.Repeat("x", 65) }),
		"another NaN":           obj(3, func(o *api.Obj) { o.Bits = theNaN + 1 }),
		"a NaN with a sign":     obj(3, func(o *api.Obj) { o.Bits = signed | theNaN }),
		"hash below 0":          obj(0, func(o *api.Obj) { o.Hash = -1 }),
		"hash too high":         obj(0, func(o *api.Obj) { o.Hash = mostOfHash + 1 }),
		"the last one is wrong": obj(6, func(o *api.Obj) { o.Class = -2 }),
	}
}

// lost are heaps that may not be, of which that is lost in a text: modulo 2^32 they are others, or a part isn't of their kind.
func lost() map[string]api.Heap {
	obj := turnedObj
	return map[string]api.Heap{
		"cap 2^32 too high":   turned(func(h *api.Heap) { h.Cap += 1 << 32 }),
		"last 2^32 too high":  turned(func(h *api.Heap) { h.Last += 1 << 32 }),
		"class 2^32 too high": obj(2, func(o *api.Obj) { o.Class += 1 << 32 }),
		"slot no value":       obj(5, func(o *api.Obj) { o.Slots[0] = greatest + 2 }),
		"slot 2^32 too high":  obj(5, func(o *api.Obj) { o.Slots[2] += 1 << 32 }),
		"no kind":             obj(4, func(o *api.Obj) { o.Kind = 3 }),
		"kind below 0":        obj(4, func(o *api.Obj) { o.Kind = -1 }),
		"kind 2^32 too high":  obj(4, func(o *api.Obj) { o.Kind += 1 << 32 }),
		"bytes with slots":    obj(2, func(o *api.Obj) { o.Slots = []int{0} }),
		"a float with a text": obj(3, func(o *api.Obj) { o.Text = "a" }),
		"slots with bits":     obj(0, func(o *api.Obj) { o.Bits = 1 }),
		"the last one's hash": obj(6, func(o *api.Obj) { o.Hash += 1 << 32 }),
	}
}

// someRoots are lists of few's values.
func someRoots() [][]int {
	return [][]int{nil, {}, {0}, {12}, {1}, {-1}, {greatest, least}, {12, 0, 7, 7, 12}, slices.Repeat([]int{12}, 64), slices.Repeat([]int{least, 4}, 31)}
}

// told is a heap and roots as a text, in which an empty list and a nil one are the same.
func told(h api.Heap, roots []int) string { return fmt.Sprintf("%+q %v", fmt.Sprintf("%+v", h), roots) }

// four is n in four bytes.
func four(n int) string { return string(binary.LittleEndian.AppendUint32(nil, uint32(n))) }

func eight(n int) string { return string(binary.LittleEndian.AppendUint64(nil, uint64(n))) }

// sealed is s, and behind it its sum by the library's table of the same polynomial.
func sealed(s string) string { return s + four(int(crc32.ChecksumIEEE([]byte(s)))) }

// listed is how many numbers there are, and each of them.
func listed(l []int) string {
	s := []byte(four(len(l)))
	for _, n := range l {
		s = append(s, four(n)...)
	}
	return string(s)
}

// byWords is the text of a heap and roots that may be, without its sum, by the chapter's words.
func byWords(h api.Heap, roots []int) string {
	s := []byte("AN1" + four(h.Cap) + four(h.Last) + four(len(h.Objs)))
	for _, o := range h.Objs {
		s = append(s, four(o.Class)+four(o.Kind)+four(o.Hash)...)
		s = append(s, []string{listed(o.Slots), four(len(o.Text)) + o.Text, eight(o.Bits)}[o.Kind]...)
	}
	return string(s) + listed(roots)
}

// back reads a text, without its sum, by the chapter's words, and stops at the first thing that may not be.
type back struct {
	rest string
	bad  bool
}

func (b *back) bytes(n int) []byte {
	if b.bad || n > len(b.rest) {
		b.bad = true
		return make([]byte, n)
	}
	s := b.rest[:n]
	b.rest = b.rest[n:]
	return []byte(s)
}

// number reads one in four bytes that lies from low to high.
func (b *back) number(low, high int) int {
	n := int(binary.LittleEndian.Uint32(b.bytes(4)))
	if n > high {
		n -= 1 << 32
	}
	if n < low || n > high {
		b.bad = true
		return low
	}
	return n
}

// value reads one of a heap of so many objects.
func (b *back) value(objs int) int {
	v := b.number(least-1, greatest)
	b.bad = b.bad || v%2 == 0 && (v < 0 || v >= 2*objs)
	return v
}

func (b *back) values(most, objs int) []int {
	var l []int
	for n := b.number(0, most); len(l) < n && !b.bad; {
		l = append(l, b.value(objs))
	}
	return l
}

func (b *back) object(objs int) api.Obj {
	o := api.Obj{Class: b.value(objs)}
	b.bad = b.bad || o.Class%2 != 0
	o.Kind = b.number(0, 2)
	o.Hash = b.number(0, mostOfHash)
	switch o.Kind {
	case 0:
		o.Slots = b.values(64, objs)
	case 1:
		o.Text = string(b.bytes(b.number(0, 64)))
	case 2:
		n := binary.LittleEndian.Uint64(b.bytes(8))
		o.Bits = int(n)
		b.bad = b.bad || n&(1<<63-1) > infinite && n != theNaN
	}
	return o
}

// readByWords is the heap and the roots that s, without its sum, is the text of, if there are any.
func readByWords(s string) (api.Heap, []int, bool) {
	b := back{rest: s}
	b.bad = string(b.bytes(3)) != "AN1"
	h := api.Heap{Cap: b.number(1, 256), Last: b.number(0, mostOfHash)}
	objs := b.number(0, h.Cap)
	for len(h.Objs) < objs && !b.bad {
		h.Objs = append(h.Objs, b.object(objs))
	}
	roots := b.values(64, objs)
	if b.bad || b.rest != "" {
		return api.Heap{}, nil, false
	}
	return h, roots, true
}

// wantText holds Encode against a text, and looks whether the arguments stay as they were.
func wantText(t *testing.T, what string, h api.Heap, roots []int, want string) {
	t.Helper()
	before := told(h, roots)
	if s := Encode(h, roots); s != want {
		t.Fatalf("%s: Encode with %v:\n%q; want\n%q", what, roots, s, want)
	}
	if after := told(h, roots); after != before {
		t.Fatalf("%s: the arguments have changed to\n%s; they were\n%s", what, after, before)
	}
}

// wantRead holds Decode against what it is to tell.
func wantRead(t *testing.T, what, s string, h api.Heap, roots []int) {
	t.Helper()
	g, l, e := Decode(s)
	if e != api.OK || told(g, l) != told(h, roots) {
		t.Fatalf("%s: Decode of\n%q:\n%s, error %d; want\n%s", what, s, told(g, l), e, told(h, roots))
	}
}

// wantError holds Decode against an error, and nothing beside it.
func wantError(t *testing.T, what, s string, want api.Errno) {
	t.Helper()
	h, l, e := Decode(s)
	if e != want || told(h, l) != told(api.Heap{}, nil) {
		t.Fatalf("%s: Decode of\n%.300q:\n%s, error %d; want nothing, and error %d", what, s, told(h, l), e, want)
	}
}

// wantByWords holds Decode of s and its sum against what the chapter's words tell, and tells whether that is a heap.
func wantByWords(t *testing.T, what, s string) bool {
	t.Helper()
	h, roots, ok := readByWords(s)
	if ok {
		wantRead(t, what, sealed(s), h, roots)
		wantText(t, what, h, roots, sealed(s))
	} else {
		wantError(t, what, sealed(s), api.ErrForm)
	}
	return ok
}

// spread is a row of numbers all over, the same in each run.
type spread uint32

func (s *spread) below(n int) int {
	*s = *s*1664525 + 1013904223
	return int(uint64(*s) * uint64(n) >> 32)
}

// values are below most SmallIntegers' from end to end, and refs of n objects.
func (s *spread) values(most, n int) []int {
	var l []int
	for range s.below(most) {
		if n == 0 || s.below(2) == 0 {
			l = append(l, 2*(s.below(1<<31)-1<<30)+1)
		} else {
			l = append(l, 2*s.below(n))
		}
	}
	return l
}

func (s *spread) text(n int) string {
	b := make([]byte, n)
	for i := range b {
		b[i] = byte(s.below(256))
	}
	return string(b)
}

// heap is one of n objects, at most 256.
func (s *spread) heap(n int) api.Heap {
	h := api.Heap{Cap: min(256, max(1, n)+s.below(3)), Last: s.below(1 << 30), Objs: make([]api.Obj, n)}
	for i := range h.Objs {
		o := api.Obj{Class: 2 * s.below(n), Kind: s.below(3), Hash: s.below(1 << 30)}
		switch o.Kind {
		case 0:
			o.Slots = s.values(1+s.below(65), n)
		case 1:
			o.Text = s.text(s.below(65))
		case 2:
			o.Bits = bits()[s.below(len(bits()))]
		}
		h.Objs[i] = o
	}
	return h
}

// each goes through heaps and roots that may be: all by name, full ones, and many others.
func each(yield func(what string, h api.Heap, roots []int)) {
	for name, h := range mayBe() {
		for _, roots := range someRoots() {
			if len(h.Objs) == 0 {
				roots = slices.DeleteFunc(slices.Clone(roots), func(v int) bool { return v%2 == 0 })
			} else if len(h.Objs) == 1 {
				roots = slices.DeleteFunc(slices.Clone(roots), func(v int) bool { return v%2 == 0 && v > 0 })
			}
			yield(name, h, roots)
		}
	}
	s := spread(1)
	for i := range 600 {
		n := s.below(9)
		if i%20 == 0 {
			n = 256 - n
		}
		yield("one of many", s.heap(n), s.values(1+s.below(65), n))
	}
}
