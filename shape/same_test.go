package shape_test

import (
	"anamnesis/api"
	"fmt"
	"testing"
)

// TestP15_3_WhatCounts turns one thing each, that makes a state another one.
func TestP15_3_WhatCounts(t *testing.T) {
	obj := turnedObj
	for name, s := range map[string]api.State{
		"no Halt":              turned(func(s *api.State) { s.Halt = 0 }),
		"another Halt":         turned(func(s *api.State) { s.Halt = 172 }),
		"a step less":          turned(func(s *api.State) { s.Steps-- }),
		"a step more":          turned(func(s *api.State) { s.Steps++ }),
		"an input less":        turned(func(s *api.State) { s.Used-- }),
		"an input more":        turned(func(s *api.State) { s.Used++ }),
		"no Proc":              turned(func(s *api.State) { s.Proc = 0 }),
		"no Ready":             turned(func(s *api.State) { s.Ready = 0 }),
		"Proc and Ready":       turned(func(s *api.State) { s.Proc, s.Ready = s.Ready, s.Proc }),
		"Proc the ready one":   turned(func(s *api.State) { s.Proc = s.Ready }),
		"a hash":               obj(0, func(o *api.Obj) { o.Hash++ }),
		"the last one's hash":  obj(23, func(o *api.Obj) { o.Hash++ }),
		"a class":              obj(1, func(o *api.Obj) { o.Class = 2 }),
		"a class far on":       obj(17, func(o *api.Obj) { o.Class = 0 }),
		"a text":               obj(13, func(o *api.Obj) { o.Text = "a\x00\x1c\xff" }),
		"bits":                 obj(18, func(o *api.Obj) { o.Bits = 0 }),
		"a kind":               obj(1, func(o *api.Obj) { o.Kind = 1 }),
		"a slot":               obj(15, func(o *api.Obj) { o.Slots[2] = 9 }),
		"a slot's ref":         obj(22, func(o *api.Obj) { o.Slots[1] = 30 }),
		"a slot more":          obj(21, func(o *api.Obj) { o.Slots = append(o.Slots, 0) }),
		"a slot less":          obj(23, func(o *api.Obj) { o.Slots = o.Slots[:1] }),
		"two objects by place": turned(func(s *api.State) { l := s.Heap.Objs; l[3], l[4] = l[4], l[3] }),
	} {
		if !mayByWords(s) {
			t.Fatalf("%s: that may not be", name)
		}
		wantSame(t, name, s, few(), false)
		wantSame(t, name+", itself", s, copyOf(s), true)
		wantSame(t, name+", few collected", s, left(few(), reachedByWords(few())), false)
		wantSame(t, name+", collected", left(s, reachedByWords(s)), few(), false)
	}
}

// TestP15_3_WhatDoesNotCount turns one thing each, that leaves a state the same.
func TestP15_3_WhatDoesNotCount(t *testing.T) {
	obj := turnedObj
	for name, s := range map[string]api.State{
		"room":               turned(func(s *api.State) { s.Heap.Cap = 256 }),
		"no more room":       turned(func(s *api.State) { s.Heap.Cap = 25 }),
		"the last hash":      turned(func(s *api.State) { s.Heap.Last = 0 }),
		"the greatest":       turned(func(s *api.State) { s.Heap.Last = mostOfHash }),
		"who is not reached": obj(14, func(o *api.Obj) { *o = api.Obj{Kind: 1, Text: "x"} }),
		"its class":          obj(24, func(o *api.Obj) { o.Class = 0 }),
		"its slots":          obj(16, func(o *api.Obj) { o.Slots = nil }),
		"its hash":           obj(20, func(o *api.Obj) { o.Hash = 5 }),
		"its bits":           obj(19, func(o *api.Obj) { o.Bits = 43 }),
		"the last one gone":  turned(func(s *api.State) { s.Heap.Objs = s.Heap.Objs[:24] }),
		"one more":           turned(func(s *api.State) { s.Heap.Objs = append(s.Heap.Objs, api.Obj{Slots: []int{30, 50}}) }),
	} {
		wantSame(t, name, s, few(), true)
		wantSame(t, name+", few collected", s, left(few(), reachedByWords(few())), true)
		wantSame(t, name+", collected", left(s, reachedByWords(s)), few(), true)
	}
}

// TestP15_3_Numbers: of objects beyond the first ones they do not count; of the first ones they do.
func TestP15_3_Numbers(t *testing.T) {
	s := spread(1)
	for range 300 {
		wantSame(t, "other numbers", renumbered(few(), s.order(12, 25)), few(), true)
	}
	for i := range 12 {
		for k := range 25 {
			to := s.order(25, 25)
			to[i], to[k] = to[k], to[i]
			wantSame(t, fmt.Sprintf("%d and %d", i, k), renumbered(few(), to), few(), i == k)
		}
	}
	// Two that are alike may change places even among the first ones.
	alike, to := least12(), s.order(12, 12)
	to[3], to[7] = 7, 3
	wantSame(t, "alike", renumbered(alike, to), alike, true)
	alike.Heap.Objs[5].Slots = []int{6, 14}
	wantSame(t, "held", renumbered(alike, to), alike, false)
}

// TestP15_3_EachSlot puts each value into each slot, and each ref into each class.
func TestP15_3_EachSlot(t *testing.T) {
	var refs []int
	for i := range few().Heap.Objs {
		refs = append(refs, 2*i)
	}
	for i, o := range few().Heap.Objs {
		for _, v := range refs {
			s := turnedObj(i, func(o *api.Obj) { o.Class = v })
			wantSame(t, "a class", s, few(), sameByWords(s, few()))
		}
		for k := range o.Slots {
			for _, v := range append([]int{1, -1, 7, 31, greatest, least}, refs...) {
				s := turnedObj(i, func(o *api.Obj) { o.Slots[k] = v })
				wantSame(t, "a slot", s, few(), sameByWords(s, few()))
			}
		}
	}
	for _, v := range refs {
		for _, w := range refs {
			s := turned(func(s *api.State) { s.Proc, s.Ready = v, w })
			wantSame(t, "Proc and Ready", s, few(), v == 30 && w == 42)
		}
	}
}

// TestP15_3_FalseOfWhatMayNotBe: where the heaps alone are the same, and the numbers, too.
func TestP15_3_FalseOfWhatMayNotBe(t *testing.T) {
	for name, s := range mayNotBe() {
		wantSame(t, name+", itself", s, copyOf(s), false)
		other := few()
		other.Halt, other.Steps, other.Used = s.Halt, s.Steps, s.Used
		wantSame(t, name+", the same numbers", s, other, false)
		other = few()
		other.Heap = s.Heap
		wantSame(t, name+", the same heap", s, other, false)
	}
}
