package frame

import (
	"anamnesis/api"
	"testing"
)

// object is few, but object i has these slots.
func object(i int, slots []int) api.Heap {
	return turnedObj(i, func(o *api.Obj) { o.Slots = slots })
}

func TestP12_3_PushByHand(t *testing.T) {
	for _, v := range []int{0, 2, 32, 38, 1, -1, greatest, least} {
		wantPush(t, "few", few(), 32, v, answer{h: object(16, contextOf(0, 3, 9, 14, -1, 32, 9, -9, greatest, v))})
		wantPush(t, "nothing pushed yet", few(), 36, v, answer{h: object(18, contextOf(36, 63, 19, 26, 38, 4, 1, -1, 2, 4, 36, 38, least, greatest, v))})
		wantPush(t, "the last one", few(), 38, v, answer{h: object(19, contextOf(38, 31, 33, 26, 7, 0, 2, 0, 4, 0, 6, 0, 8, 0, 10, 12, 14, 16, 18, 20, 22, v))})
		wantPush(t, "full", few(), 34, v, answer{h: few(), e: api.ErrStack})
	}
	for k, x := range []struct {
		c, v int
		e    api.Errno
	}{
		{32, 40, api.ErrRef}, {32, -2, api.ErrRef}, {32, greatest + 2, api.ErrRef}, {32, 1 << 32, api.ErrRef},
		{34, 40, api.ErrRef}, {34, signed, api.ErrRef}, // ahead of ErrStack
		{14, 7, api.ErrFrame}, {14, 40, api.ErrFrame}, {40, 40, api.ErrFrame}, {33, 7, api.ErrFrame}, {-32, 7, api.ErrFrame},
	} {
		if g, e := Push(few(), x.c, x.v); e != x.e || !isSame(g, few()) {
			t.Errorf("number %d: error %d; want %d", k, e, x.e)
		}
	}
}

func TestP12_3_PopByHand(t *testing.T) {
	wantPop(t, "few", few(), 32, answer{v: greatest, h: object(16, contextOf(0, 3, 5, 14, -1, 32, 9, -9))})
	wantPop(t, "full", few(), 34, answer{v: 38, h: object(17, contextOf(32, 1, 31, 20, 2, 32, 1, 3, 5, 7, 9, 11, 13, 15, 17, 19, 21, 23, 25, 27, 29))})
	wantPop(t, "few", few(), 38, answer{v: 22, h: object(19, contextOf(38, 31, 29, 26, 7, 0, 2, 0, 4, 0, 6, 0, 8, 0, 10, 12, 14, 16, 18, 20))})
	wantPop(t, "nothing pushed", few(), 36, answer{h: few(), e: api.ErrStack})
	empty := turned(func(h *api.Heap) { h.Objs[17].Slots = contextOf(32, 1, 1, 20, 2, 32) })
	wantPop(t, "no temporaries, nothing pushed", empty, 34, answer{h: empty, e: api.ErrStack})
	one := turned(func(h *api.Heap) { h.Objs[17].Slots = contextOf(32, 1, 3, 20, 2, 32, 5) })
	wantPop(t, "no temporaries, one pushed", one, 34, answer{h: empty, v: 5})
	wantPop(t, "a method", few(), 14, answer{h: few(), e: api.ErrFrame})
	wantPop(t, "no object", few(), 40, answer{h: few(), e: api.ErrFrame})
}

// TestP12_3_BeyondSp: what lies in the area beyond sp does not count, and stays, but where one pushes.
func TestP12_3_BeyondSp(t *testing.T) {
	slots := []int{0, 3, 7, 14, -1, 32, 9, -9, greatest, 11, 13, 15, 17, 19, 21, 23, 25, 27, 29, 31, 33, 35}
	pushed := []int{0, 3, 9, 14, -1, 32, 9, -9, greatest, 2, 13, 15, 17, 19, 21, 23, 25, 27, 29, 31, 33, 35}
	popped := []int{0, 3, 5, 14, -1, 32, 9, -9, 0, 11, 13, 15, 17, 19, 21, 23, 25, 27, 29, 31, 33, 35}
	h := object(16, slots)
	wantMay(t, "filled", h, 32, true)
	wantPush(t, "filled", h, 32, 2, answer{h: object(16, pushed)})
	wantPop(t, "filled", h, 32, answer{h: object(16, popped), v: greatest})
	wantTemp(t, "filled", h, 32, 2, answer{e: api.ErrStack})
	wantTemp(t, "filled", h, 32, 3, answer{e: api.ErrStack})
}

func TestP12_3_TempByHand(t *testing.T) {
	for c, temps := range map[int][]int{32: {9, -9}, 34: {}, 36: {1, -1, 2, 4, 36, 38, least, greatest}, 38: {2, 0, 4, 0, 6, 0, 8, 0}} {
		for _, k := range places() {
			if k >= 0 && k < len(temps) {
				wantTemp(t, "few", few(), c, k, answer{v: temps[k]})
			} else {
				wantTemp(t, "few", few(), c, k, answer{e: api.ErrStack})
			}
		}
	}
	for _, c := range []int{14, 0, 40, 33, -32} {
		wantTemp(t, "no context", few(), c, 0, answer{e: api.ErrFrame})
		wantTemp(t, "no context", few(), c, -1, answer{e: api.ErrFrame})
	}
}

func TestP12_3_SetTempByHand(t *testing.T) {
	for _, v := range []int{0, 2, 32, 38, 1, -1, greatest, least} {
		wantSetTemp(t, "few", few(), 32, 0, v, answer{h: object(16, contextOf(0, 3, 7, 14, -1, 32, v, -9, greatest))})
		wantSetTemp(t, "few", few(), 32, 1, v, answer{h: object(16, contextOf(0, 3, 7, 14, -1, 32, 9, v, greatest))})
		wantSetTemp(t, "few", few(), 36, 7, v, answer{h: object(18, contextOf(36, 63, 17, 26, 38, 4, 1, -1, 2, 4, 36, 38, least, v))})
		for _, k := range []int{2, 3, 8, 16, -1, -6, signed, highest, 1 << 32} {
			wantSetTemp(t, "no such one", few(), 32, k, v, answer{h: few(), e: api.ErrStack})
		}
		wantSetTemp(t, "none", few(), 34, 0, v, answer{h: few(), e: api.ErrStack})
		wantSetTemp(t, "no such one", few(), 36, 8, v, answer{h: few(), e: api.ErrStack})
		wantSetTemp(t, "no context", few(), 14, 0, v, answer{h: few(), e: api.ErrFrame})
	}
	for _, k := range []int{0, 1, 2, -1, highest} {
		wantSetTemp(t, "no value", few(), 32, k, 40, answer{h: few(), e: api.ErrRef})
		wantSetTemp(t, "no value", few(), 34, k, -2, answer{h: few(), e: api.ErrRef})
		wantSetTemp(t, "no value, no context", few(), 14, k, 40, answer{h: few(), e: api.ErrFrame})
	}
}

// TestP12_3_EachWithEach takes right and wrong arguments, each with each: the error is the one named first.
func TestP12_3_EachWithEach(t *testing.T) {
	for _, c := range all() {
		wantPop(t, "few", few(), c, popByWords(few(), c))
		for _, v := range all() {
			wantPush(t, "few", few(), c, v, pushByWords(few(), c, v))
		}
		for _, k := range places() {
			wantTemp(t, "few", few(), c, k, tempByWords(few(), c, k))
			for _, v := range []int{0, 14, 38, 1, greatest, 40, -2, greatest + 2, signed} {
				wantSetTemp(t, "few", few(), c, k, v, setTempByWords(few(), c, k, v))
			}
		}
	}
}

// TestP12_3_MayNotBe: of a heap that may not be all errors are ErrFrame.
func TestP12_3_MayNotBe(t *testing.T) {
	for name, h := range mayNotBe() {
		for _, c := range []int{32, 34, 36, 14, 40, -2} {
			nothing := answer{h: h, e: api.ErrFrame}
			wantPush(t, name, h, c, 7, nothing)
			wantPush(t, name, h, c, 40, nothing)
			wantPop(t, name, h, c, nothing)
			wantSetTemp(t, name, h, c, 0, 7, nothing)
			wantSetTemp(t, name, h, c, 9, 40, nothing)
			wantTemp(t, name, h, c, 0, answer{e: api.ErrFrame})
			wantTemp(t, name, h, c, 9, answer{e: api.ErrFrame})
		}
	}
}

func TestP12_4_GoByHand(t *testing.T) {
	for ip := range 3 {
		wantGo(t, "few", few(), 32, ip, answer{h: object(16, contextOf(0, 2*ip+1, 7, 14, -1, 32, 9, -9, greatest))})
	}
	wantGo(t, "one instruction", few(), 34, 0, answer{h: few()})
	wantGo(t, "the first one", few(), 36, 0, answer{h: object(18, contextOf(36, 1, 17, 26, 38, 4, 1, -1, 2, 4, 36, 38, least, greatest))})
	wantGo(t, "the last one", few(), 36, 31, answer{h: few()})
	for c, n := range map[int]int{32: 3, 34: 1, 36: 32, 38: 32} {
		for _, ip := range []int{n, n + 1, 64, 256, -1, -2, 1 << 32, signed, highest} {
			wantGo(t, "no such one", few(), c, ip, answer{h: few(), e: api.ErrFrame})
		}
	}
	for _, c := range []int{14, 0, 40, 33, -32} {
		wantGo(t, "no context", few(), c, 0, answer{h: few(), e: api.ErrFrame})
	}
}

func TestP12_4_AtByHand(t *testing.T) {
	wantAt(t, "few", few(), 32, answer{v: 1, instr: api.Instr{Op: api.PushLit}})
	wantAt(t, "few", few(), 34, answer{instr: api.Instr{Op: api.Home}})
	wantAt(t, "few", few(), 36, answer{v: 31, instr: api.Instr{Op: api.Return}})
	wantAt(t, "few", few(), 38, answer{v: 15, instr: api.Instr{Op: api.Dup}})
	for ip, instr := range []api.Instr{{Op: api.PushLit, Arg: 63}, {Op: api.PushTemp, Arg: 7}, {Op: api.PushField, Arg: 63}, {Op: api.Send, Arg: 252}, {Op: api.Jump, Arg: 31}, {Op: api.PushOuter, Arg: 7}, {Op: api.Dup}} {
		wantAt(t, "one by one", turnedSlot(18, 1, 2*ip+1), 36, answer{v: ip, instr: instr})
	}
	for _, c := range []int{14, 0, 40, 33, -32, signed, highest} {
		wantAt(t, "no context", few(), c, answer{e: api.ErrFrame})
	}
}

func TestP12_4_EachWithEach(t *testing.T) {
	for _, c := range all() {
		wantAt(t, "few", few(), c, atByWords(few(), c))
		for _, ip := range places() {
			wantGo(t, "few", few(), c, ip, goByWords(few(), c, ip))
		}
	}
}

// TestP12_4_MayNotBe: of a heap that may not be all errors are ErrFrame.
func TestP12_4_MayNotBe(t *testing.T) {
	for name, h := range mayNotBe() {
		for _, c := range []int{32, 34, 36, 14, 40, -2} {
			wantAt(t, name, h, c, answer{e: api.ErrFrame})
			wantGo(t, name, h, c, 0, answer{h: h, e: api.ErrFrame})
			wantGo(t, name, h, c, -1, answer{h: h, e: api.ErrFrame})
		}
	}
}
