package heap

import (
	"anamnesis/api"
	"strings"
	"testing"
)

// ofClass is n objects whose class is the first one of them.
func ofClass(n int) []api.Obj { return make([]api.Obj, n) }

func mayBe() map[string]api.Heap {
	return map[string]api.Heap{
		"few":                few(),
		"no objects":         {Cap: 1},
		"most room":          {Cap: 256},
		"full, of one":       {Cap: 1, Objs: ofClass(1)},
		"full, of the most":  {Cap: 256, Objs: ofClass(256)},
		"full":               turned(func(h *api.Heap) { h.Cap = 6 }),
		"last 0":             turned(func(h *api.Heap) { h.Last = 0 }),
		"the most of last":   turned(func(h *api.Heap) { h.Last = mostOfHash }),
		"the last class":     turnedObj(0, func(o *api.Obj) { o.Class = 10 }),
		"class of any kind":  turnedObj(0, func(o *api.Obj) { o.Class = 6 }),
		"hash 0":             turnedObj(0, func(o *api.Obj) { o.Hash = 0 }),
		"the most of hash":   turnedObj(0, func(o *api.Obj) { o.Hash = mostOfHash }),
		"two of one hash":    turnedObj(0, func(o *api.Obj) { o.Hash = 11 }),
		"the most of slots":  turnedObj(0, func(o *api.Obj) { o.Slots = make([]int, 64) }),
		"the last ref":       turnedObj(1, func(o *api.Obj) { o.Slots[3] = 10 }),
		"greatest of slots":  turnedObj(1, func(o *api.Obj) { o.Slots[3] = greatest }),
		"least of slots":     turnedObj(1, func(o *api.Obj) { o.Slots[0] = least }),
		"the most of bytes":  turnedObj(2, func(o *api.Obj) { o.Text = strings.Repeat("\xff", 64) }),
		"bits 0":             turnedObj(3, func(o *api.Obj) { o.Bits = 0 }),
		"the NaN":            turnedObj(3, func(o *api.Obj) { o.Bits = theNaN }),
		"infinite":           turnedObj(3, func(o *api.Obj) { o.Bits = infinite }),
		"infinite, signed":   turnedObj(3, func(o *api.Obj) { o.Bits = signed | infinite }),
		"zero, signed":       turnedObj(3, func(o *api.Obj) { o.Bits = signed }),
		"empty lists":        {Cap: 1, Objs: []api.Obj{}},
		"bytes, empty list":  turnedObj(2, func(o *api.Obj) { o.Slots = []int{} }),
		"float, empty list":  turnedObj(3, func(o *api.Obj) { o.Slots = []int{} }),
		"slots, empty list":  turnedObj(0, func(o *api.Obj) { o.Slots = []int{} }),
		"more room in lists": turnedObj(0, func(o *api.Obj) { o.Slots = make([]int, 1, 1000) }),
	}
}

func mayNotBe() map[string]api.Heap {
	l := map[string]api.Heap{
		"the zero one":       {},
		"cap 0":              turned(func(h *api.Heap) { h.Cap = 0 }),
		"cap below 0":        turned(func(h *api.Heap) { h.Cap = -1 }),
		"cap -2^63":          turned(func(h *api.Heap) { h.Cap = signed }),
		"too much room":      turned(func(h *api.Heap) { h.Cap = 257 }),
		"cap 2^63 - 1":       turned(func(h *api.Heap) { h.Cap = highest }),
		"too many objects":   turned(func(h *api.Heap) { h.Cap = 5 }),
		"257 objects":        {Cap: 256, Objs: ofClass(257)},
		"257, and their cap": {Cap: 257, Objs: ofClass(257)},
		"very many objects":  {Cap: 256, Objs: ofClass(100000)},
		"no cap, no object":  {Last: 5},
		"last below 0":       turned(func(h *api.Heap) { h.Last = -1 }),
		"last too high":      turned(func(h *api.Heap) { h.Last = mostOfHash + 1 }),
		"last 2^32":          turned(func(h *api.Heap) { h.Last = 1 << 32 }),
		"last -2^63":         turned(func(h *api.Heap) { h.Last = signed }),
		"last of no object":  {Cap: 1, Last: -1},
	}
	obj := func(name string, i int, do func(o *api.Obj)) { l[name] = turnedObj(i, do) }
	for i := range few().Objs {
		for _, v := range noRefs() {
			obj(told("class", i, v), i, func(o *api.Obj) { o.Class = v })
		}
		for _, n := range []int{-1, mostOfHash + 1, 1 << 32, signed, highest} {
			obj(told("hash", i, n), i, func(o *api.Obj) { o.Hash = n })
		}
		for _, n := range []int{-1, 3, 4, 256, 1 << 32, signed, highest} {
			obj(told("kind", i, n), i, func(o *api.Obj) { o.Kind = n })
		}
	}
	for _, v := range noValues() {
		obj(told("the first slot", v), 1, func(o *api.Obj) { o.Slots[0] = v })
		obj(told("the last slot", v), 1, func(o *api.Obj) { o.Slots[3] = v })
		obj(told("a slot of the last object", v), 5, func(o *api.Obj) { o.Slots[0] = v })
	}
	obj("65 slots", 0, func(o *api.Obj) { o.Slots = make([]int, 65) })
	obj("very many slots", 5, func(o *api.Obj) { o.Slots = make([]int, 100000) })
	obj("65 bytes", 2, func(o *api.Obj) { o.Text = strings.Repeat("x", 65) })
	obj("very many bytes", 4, func(o *api.Obj) { o.Text = strings.Repeat("x", 100000) })
	obj("pointers with a text", 0, func(o *api.Obj) { o.Text = "\x00" })
	obj("pointers with bits", 1, func(o *api.Obj) { o.Bits = 1 })
	obj("pointers with a sign", 1, func(o *api.Obj) { o.Bits = signed })
	obj("bytes with slots", 2, func(o *api.Obj) { o.Slots = []int{0} })
	obj("bytes with bits", 2, func(o *api.Obj) { o.Bits = 1 })
	obj("no bytes, but slots", 4, func(o *api.Obj) { o.Slots = []int{1} })
	obj("a float with slots", 3, func(o *api.Obj) { o.Slots = []int{0} })
	obj("a float with a text", 3, func(o *api.Obj) { o.Text = "a" })
	obj("slots, but bytes", 1, func(o *api.Obj) { o.Kind = 1 })
	obj("slots, but a float", 1, func(o *api.Obj) { o.Kind = 2 })
	obj("a text, but pointers", 2, func(o *api.Obj) { o.Kind = 0 })
	obj("a text, but a float", 2, func(o *api.Obj) { o.Kind = 2 })
	obj("bits, but pointers", 3, func(o *api.Obj) { o.Kind = 0 })
	obj("bits, but bytes", 3, func(o *api.Obj) { o.Kind = 1 })
	for _, n := range []int{infinite + 1, theNaN - 1, theNaN + 1, highest, signed | infinite + 1, signed | theNaN, -1} {
		obj(told("another NaN", n), 3, func(o *api.Obj) { o.Bits = n })
	}
	return l
}

func TestP3_May(t *testing.T) {
	for name, h := range mayBe() {
		before := copyOf(h)
		if !May(h) {
			t.Errorf("%s: may not be", name)
		}
		wantHeap(t, name, h, before)
	}
	for name, h := range mayNotBe() {
		if May(h) {
			t.Errorf("%s: may be", name)
		}
	}
}

// TestP3_MayNotBe: of a heap that may not be nothing is told but that, whatever else is wrong.
func TestP3_MayNotBe(t *testing.T) {
	check := func(what string, g api.Heap, x int, e api.Errno) {
		t.Helper()
		wantErr(t, what, e, api.ErrArg)
		wantHeap(t, what, g, api.Heap{})
		if x != 0 {
			t.Fatalf("%s: %d; want 0", what, x)
		}
	}
	for name, h := range mayNotBe() {
		before := copyOf(h)
		for _, v := range []int{0, 2, 4, 6, 10, 1, 12, -2, signed, highest} {
			for _, k := range []int{0, 1, 4, -1, 64, 65, signed, highest} {
				g, x, e := Alloc(h, v, k, k)
				check(told(name+": Alloc", v, k, k), g, x, e)
				x, e = Get(h, v, k)
				check(told(name+": Get", v, k), api.Heap{}, x, e)
				x, e = Byte(h, v, k)
				check(told(name+": Byte", v, k), api.Heap{}, x, e)
				g, e = Set(h, v, k, k)
				check(told(name+": Set", v, k, k), g, 0, e)
				g, e = SetByte(h, v, k, k)
				check(told(name+": SetByte", v, k, k), g, 0, e)
				g, e = Become(h, v, k)
				check(told(name+": Become", v, k), g, 0, e)
			}
		}
		wantHeap(t, name, h, before)
	}
}
