package frame

import (
	"anamnesis/api"
	"anamnesis/code"
	"anamnesis/heap"
	"strings"
	"testing"
)

// TestFew: what the other tests stand on.
func TestFew(t *testing.T) {
	if !heap.May(few()) {
		t.Fatal("few may not be")
	}
	for name, h := range mayNotBe() {
		if heap.May(h) {
			t.Errorf("%s: may be", name)
		}
	}
	for _, m := range methods() {
		if _, ok := methodByWords(few(), m); !ok {
			t.Errorf("%d is no method", m)
		}
	}
	for _, c := range contexts() {
		if _, ok := seenByWords(few(), c); !ok {
			t.Errorf("%d is no context", c)
		}
	}
}

func TestP12_1_MethodByHand(t *testing.T) {
	wantMethod(t, "few", few(), 14, api.Method{Prim: 2, Args: 1, Temps: 2, Code: []api.Instr{{Op: api.PushTemp, Arg: 1}, {Op: api.PushLit}, {Op: api.Return}}, Lits: []int{7}}, true)
	wantMethod(t, "few", few(), 20, api.Method{Code: []api.Instr{{Op: api.Home}}}, true)
	l, _ := code.Unpack(longest())
	wantMethod(t, "few", few(), 26, api.Method{Prim: 63, Args: 4, Temps: 8, Code: l, Lits: manyLits()}, true)
	if len(l) != 32 {
		t.Errorf("%d instructions", len(l))
	}
}

func TestP12_1_NoMethod(t *testing.T) {
	for _, v := range append(append(others(), contexts()...), noValues()...) {
		wantMethod(t, "few", few(), v, api.Method{}, false)
	}
}

// TestP12_1_MethodNumbers turns each of the three SmallIntegers, from end to end.
func TestP12_1_MethodNumbers(t *testing.T) {
	for v := -20; v <= 140; v++ {
		odd := v%2 != 0
		wantIsMethod(t, "primitive", turnedSlot(7, 0, numberOr0(v)), odd && v >= 1 && v <= 127)
		wantIsMethod(t, "arguments", turnedSlot(7, 1, numberOr0(v)), odd && v >= 1 && v <= 5)
		wantIsMethod(t, "temporaries", turnedSlot(7, 2, numberOr0(v)), odd && v >= 5 && v <= 17)
	}
	for _, v := range []int{greatest, least, greatest - 2, least + 2, -127, 1<<30 + 1} {
		for slot := range 3 {
			wantIsMethod(t, "far away", turnedSlot(7, slot, v), false)
		}
	}
}

// numberOr0 is v, or 0, if that is no value of few.
func numberOr0(v int) int {
	if isValueByWords(few(), v) {
		return v
	}
	return 0
}

// wantIsMethod: is object 7 a method?
func wantIsMethod(t *testing.T, what string, h api.Heap, want bool) {
	t.Helper()
	has, ok := methodByWords(h, 14)
	if ok != want {
		t.Fatalf("%s: by words a method: %v", what, ok)
	}
	wantMethod(t, what, h, 14, has, want)
	wantHas(t, what, h, 14)
}

// TestP12_1_MethodArgsAndTemps takes each number of arguments with each of temporaries.
func TestP12_1_MethodArgsAndTemps(t *testing.T) {
	for args := range 11 {
		for temps := range 11 {
			h := turned(func(h *api.Heap) {
				h.Objs[7].Slots[1], h.Objs[7].Slots[2] = 2*args+1, 2*temps+1
				h.Objs[8].Text = "\x0e\x00"
			})
			wantIsMethod(t, "arguments and temporaries", h, args <= 4 && args <= temps && temps <= 8)
		}
	}
}

// TestP12_1_MethodSlots: five, and no more.
func TestP12_1_MethodSlots(t *testing.T) {
	for n := range 65 {
		h := turnedObj(7, func(o *api.Obj) { o.Slots = append(o.Slots, make([]int, 59)...)[:n] })
		wantIsMethod(t, "slots", h, n == 5)
	}
	for _, kind := range []int{1, 2} {
		h := turnedObj(7, func(o *api.Obj) { *o = api.Obj{Kind: kind} })
		wantIsMethod(t, "kind", h, false)
	}
	wantIsMethod(t, "text", turnedObj(7, func(o *api.Obj) { *o = api.Obj{Kind: 1, Text: "\x05\x03\x05\x10\x12"} }), false)
}

// TestP12_1_MethodRefs turns both refs: of instructions, and of literals.
func TestP12_1_MethodRefs(t *testing.T) {
	for _, v := range append(append(others(), methods()...), contexts()...) {
		wantIsMethod(t, "instructions", turnedSlot(7, 3, v), v == 16 || v == 22)
		isPointers := v%2 == 0 && v >= 0 && few().Objs[v/2].Kind == 0
		has := isPointers && len(few().Objs[v/2].Slots) > 0
		wantIsMethod(t, "literals", turnedSlot(7, 4, v), has)
		h := turnedSlot(7, 4, v)
		h.Objs[8].Text = "\x0e\x00"
		wantIsMethod(t, "literals that nobody asks for", h, isPointers)
	}
}

// TestP12_1_MethodOfAnyClass: a method's class does not count, nor does that of its parts; object 0 may be one.
func TestP12_1_MethodOfAnyClass(t *testing.T) {
	for class := 0; class < 40; class += 2 {
		for _, i := range []int{7, 8, 9} {
			wantIsMethod(t, "class", turnedObj(i, func(o *api.Obj) { o.Class = class }), true)
		}
	}
	h := turnedObj(0, func(o *api.Obj) { o.Slots = []int{5, 3, 5, 16, 18} })
	has, _ := methodByWords(few(), 14)
	wantMethod(t, "object 0", h, 0, has, true)
	h = turnedObj(0, func(o *api.Obj) { o.Slots = []int{1, 1, 1, 2, 0} })
	h.Objs[1] = api.Obj{Kind: 1, Text: "\x01\x04\x0e\x00"}
	has = api.Method{Code: []api.Instr{{Op: 1, Arg: 4}, {Op: 14}}, Lits: []int{1, 1, 1, 2, 0}}
	wantMethod(t, "object 0, its own literals", h, 0, has, true)
}

// TestP12_1_MethodCode: instructions that may be those of so many literals, and temporaries.
func TestP12_1_MethodCode(t *testing.T) {
	for text, want := range map[string]bool{
		"\x0e\x00":                 true,
		"\x0f\x00":                 true,
		"\x0a\x00":                 true,
		"\x0a\x01":                 false, // there is no instruction 1
		"":                         false,
		"\x0e":                     false,
		"\x0e\x00\x0e":             false,
		"\x0e\x01":                 false,
		"\x13\x00\x0e\x00":         false, // no Op
		"\x00\x00":                 false, // goes on behind the last one
		"\x0b\x00":                 false,
		"\x01\x00\x0e\x00":         true,
		"\x01\x01\x0e\x00":         false, // there is no literal 1
		"\x0d\x00\x0e\x00":         true,
		"\x0d\x01\x0e\x00":         false,
		"\x08\x04\x0e\x00":         true,
		"\x08\x05\x0e\x00":         false, // five arguments
		"\x09\x08\x0e\x00":         false,
		"\x02\x01\x0e\x00":         true,
		"\x02\x02\x0e\x00":         false, // there is no temporary 2
		"\x04\x01\x0e\x00":         true,
		"\x04\x02\x0e\x00":         false,
		"\x10\x07\x0e\x00":         true,
		"\x10\x08\x0e\x00":         false,
		"\x03\x3f\x0e\x00":         true,
		"\x03\x40\x0e\x00":         false,
		"\x0e\x00\x0e\x00\x0e\x00": true,
		"return\n":                 false,
	} {
		wantIsMethod(t, text, turnedObj(8, func(o *api.Obj) { o.Text = text }), want)
	}
	for n := range 33 {
		h := turnedObj(8, func(o *api.Obj) { o.Text = strings.Repeat("\x0e\x00", n) })
		wantIsMethod(t, "as many instructions", h, n > 0)
	}
}

// TestP12_1_MethodAsks: the last literal and the last temporary that there are, and one more.
func TestP12_1_MethodAsks(t *testing.T) {
	for n := range 64 {
		for _, more := range []int{-1, 0, 1} {
			lits := max(n+more, 0)
			h := turned(func(h *api.Heap) {
				h.Objs[8].Text = string([]byte{api.PushLit, byte(n), api.Return, 0})
				h.Objs[9].Slots = make([]int, lits)
			})
			wantIsMethod(t, "literals", h, n < lits)
		}
	}
	for n := range 10 {
		for temps := range 9 {
			h := turned(func(h *api.Heap) {
				h.Objs[7].Slots[1], h.Objs[7].Slots[2] = 1, 2*temps+1
				h.Objs[8].Text = string([]byte{api.PopTemp, byte(n), api.Return, 0})
				h.Objs[9].Slots = nil
			})
			wantIsMethod(t, "temporaries", h, n < temps)
		}
	}
}

func TestP12_1_MayByHand(t *testing.T) {
	for _, c := range contexts() {
		wantMay(t, "few", few(), c, true)
	}
	for _, v := range append(append(others(), methods()...), noValues()...) {
		wantMay(t, "few", few(), v, false)
	}
}

// TestP12_1_MayClass: object 6, wherever it lies; nothing under it, or of its kind.
func TestP12_1_MayClass(t *testing.T) {
	for class := 0; class < 40; class += 2 {
		h := turnedObj(16, func(o *api.Obj) { o.Class = class })
		wantMay(t, "class", h, 32, class == 12)
		wantSeen(t, "class", h, 32)
	}
	h := turnedObj(6, func(o *api.Obj) { *o = api.Obj{Class: 12, Kind: 1, Text: "any"} })
	wantMay(t, "a class of bytes", h, 32, true)
	h = turnedObj(6, func(o *api.Obj) { *o = few().Objs[16] })
	wantMay(t, "object 6 itself", h, 12, true)
	h = turnedObj(0, func(o *api.Obj) { *o = few().Objs[16] })
	wantMay(t, "object 0", h, 0, true)
	wantSeen(t, "object 0", h, 0)
}

// TestP12_1_MaySlots: 22, and no more.
func TestP12_1_MaySlots(t *testing.T) {
	for n := range 65 {
		h := turnedObj(16, func(o *api.Obj) { o.Slots = append(o.Slots, make([]int, 42)...)[:n] })
		wantMay(t, "slots", h, 32, n == 22)
		wantSeen(t, "slots", h, 32)
	}
	for _, kind := range []int{1, 2} {
		h := turnedObj(16, func(o *api.Obj) { *o = api.Obj{Class: 12, Kind: kind} })
		wantMay(t, "kind", h, 32, false)
		wantSeen(t, "kind", h, 32)
	}
}

// TestP12_1_MayRefs: sender and home may be any object, the method a method alone, the receiver and what lies in the area anything.
func TestP12_1_MayRefs(t *testing.T) {
	for _, v := range append(append(others(), methods()...), contexts()...) {
		isRef := v%2 == 0 && v >= 0
		wantMay(t, "sender", turnedSlot(16, 0, v), 32, isRef)
		wantMay(t, "home", turnedSlot(16, 5, v), 32, isRef)
		wantMay(t, "receiver", turnedSlot(16, 4, v), 32, true)
		wantMay(t, "method", turnedSlot(16, 3, v), 32, v == 14)
		for _, slot := range []int{0, 3, 4, 5, 6, 8, 9, 21} {
			wantSeen(t, "a slot", turnedSlot(16, slot, v), 32)
			wantMay(t, "area", turnedSlot(16, max(slot, 6), v), 32, true)
		}
	}
}

// TestP12_1_MayNumbers: ip from 0 to the last instruction, sp from as many as temporaries to 16, of each method.
func TestP12_1_MayNumbers(t *testing.T) {
	for i, x := range map[int]struct{ instrs, temps int }{16: {3, 2}, 17: {1, 0}, 18: {32, 8}, 19: {32, 8}} {
		for n := -3; n < 70; n++ {
			h := turnedSlot(i, 1, 2*n+1)
			wantMay(t, "ip", h, 2*i, n >= 0 && n < x.instrs)
			wantSeen(t, "ip", h, 2*i)
			h = turnedSlot(i, 2, 2*n+1)
			wantMay(t, "sp", h, 2*i, n >= x.temps && n <= 16)
			wantSeen(t, "sp", h, 2*i)
		}
		for _, v := range []int{0, 2, 4, 6, 14, 32, 38, greatest, least, -1, -3, -31} {
			for _, slot := range []int{1, 2} {
				h := turnedSlot(i, slot, v)
				wantMay(t, "ip or sp", h, 2*i, false)
				wantSeen(t, "ip or sp", h, 2*i)
			}
		}
	}
}

// TestP12_1_MayMethod: a context is none any more, if its method is none, or another one that has less.
func TestP12_1_MayMethod(t *testing.T) {
	wantMay(t, "another method", turnedSlot(16, 3, 20), 32, false) // it has one instruction, so there is no ip 1
	wantMay(t, "a method of more temporaries", turnedSlot(16, 3, 26), 32, false)
	wantMay(t, "a method of less", turnedSlot(18, 3, 14), 36, false)
	wantMay(t, "a method of less", turnedSlot(17, 3, 14), 34, true)
	for name, h := range map[string]api.Heap{
		"primitive":    turnedSlot(7, 0, 129),
		"arguments":    turnedSlot(7, 1, 7),
		"temporaries":  turnedSlot(7, 2, 1),
		"instructions": turnedObj(8, func(o *api.Obj) { o.Text = "\x07\x00" }),
		"literals":     turnedObj(9, func(o *api.Obj) { o.Slots = nil }),
	} {
		wantMay(t, name, h, 32, false)
		wantSeen(t, name, h, 32)
		wantMay(t, name, h, 34, true)
	}
}

// TestP12_1_MayNotBe: of a heap that may not be all errors are ErrFrame.
func TestP12_1_MayNotBe(t *testing.T) {
	for name, h := range mayNotBe() {
		for _, v := range []int{0, 14, 20, 26, 32, 34, 36, 38, 40, 1, -2, highest, signed} {
			wantMethod(t, name, h, v, api.Method{}, false)
			wantMay(t, name, h, v, false)
		}
	}
}
