package heap

import (
	"anamnesis/api"
	"reflect"
	"strconv"
	"strings"
	"testing"
)

// The bounds stand here as numbers of their own, so that a test doesn't follow the code into a mistake.
const (
	mostOfHash = 1073741823
	greatest   = 2147483647  // the value of the greatest SmallInteger
	least      = -2147483647 // of the least one
	theNaN     = 9221120237041090561
	infinite   = 2047 << 52
	signed     = -1 << 63
	highest    = 1<<63 - 1
)

// few is a heap with objects of each kind, of something and of nothing, and room for two more.
func few() api.Heap {
	return api.Heap{Cap: 8, Last: 77, Objs: []api.Obj{
		{Hash: 10},
		{Slots: []int{0, 7, 10, -1}, Hash: 11},
		{Class: 2, Kind: 1, Text: "a\x00\xffz", Hash: 12},
		{Class: 2, Kind: 2, Bits: 4607182418800017408, Hash: 13},
		{Class: 10, Kind: 1},
		{Class: 10, Slots: []int{10}, Hash: mostOfHash},
	}}
}

// refsOf are the refs of all objects of h.
func refsOf(h api.Heap) []int {
	var l []int
	for i := range h.Objs {
		l = append(l, 2*i)
	}
	return l
}

// noRefs are no refs of objects of few: SmallIntegers, numbers that are too high, and what is no value.
func noRefs() []int {
	return []int{1, 3, 7, -1, -3, greatest, least, 12, 14, 16, 512, 2097150, 2097152, 1 << 32, 1<<32 + 2, -2, -4, signed, signed + 2, highest - 1, highest}
}

// values are some of few's: the ends of both kinds.
func values() []int { return []int{0, 2, 8, 10, 1, -1, 3, greatest, least} }

// noValues are none of few's.
func noValues() []int {
	return []int{12, 14, 512, 2097150, 2097152, -2, -4, greatest + 1, greatest + 2, least - 1, least - 2, 1 << 32, 1<<32 + 1, signed, signed + 1, highest - 1, highest}
}

// places are slots and bytes, there or not.
func places() []int { return []int{0, 1, 3, 4, 5, 63, 64, 65, -1, 1 << 32, signed, highest} }

func copyOf(h api.Heap) api.Heap {
	g := h
	g.Objs = nil
	for _, o := range h.Objs {
		o.Slots = append([]int(nil), o.Slots...)
		g.Objs = append(g.Objs, o)
	}
	return g
}

// turned is few, but for what do does to it.
func turned(do func(h *api.Heap)) api.Heap {
	h := few()
	do(&h)
	return h
}

// turnedObj is few, but for what do does to object i.
func turnedObj(i int, do func(o *api.Obj)) api.Heap {
	return turned(func(h *api.Heap) { do(&h.Objs[i]) })
}

// isSame tells whether both are the same; an empty list is no other one than a nil one.
func isSame(g, h api.Heap) bool { return reflect.DeepEqual(copyOf(g), copyOf(h)) }

func wantHeap(t *testing.T, what string, got, want api.Heap) {
	t.Helper()
	if !isSame(got, want) {
		t.Fatalf("%s: the heap\n%v; want\n%v", what, got, want)
	}
}

func wantErr(t *testing.T, what string, got, want api.Errno) {
	t.Helper()
	if got != want {
		t.Fatalf("%s: error %d; want %d", what, got, want)
	}
}

func told(name string, args ...int) string {
	var b strings.Builder
	b.WriteString(name)
	for _, a := range args {
		b.WriteString(" " + strconv.Itoa(a))
	}
	return b.String()
}

// first is the first of the errors that is one.
func first(l ...api.Errno) api.Errno {
	for _, e := range l {
		if e != api.OK {
			return e
		}
	}
	return api.OK
}

func errIf(is bool, e api.Errno) api.Errno {
	if is {
		return e
	}
	return api.OK
}

// numbered is the number of the object of h whose ref v is; -1, if there is none.
func numbered(h api.Heap, v int) int {
	for i := range h.Objs {
		if v == 2*i {
			return i
		}
	}
	return -1
}

// placeErr is the error of a slot, or byte, k of v, told by the chapter's words one by one.
func placeErr(h api.Heap, v, kind, k int) api.Errno {
	i := numbered(h, v)
	if i < 0 {
		return api.ErrRef
	}
	o := h.Objs[i]
	if o.Kind != kind {
		return api.ErrKind
	}
	size := len(o.Slots)
	if kind == 1 {
		size = len(o.Text)
	}
	return errIf(k < 0 || k >= size, api.ErrSlot)
}
