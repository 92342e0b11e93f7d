package snap

import (
	"anamnesis/api"
	"anamnesis/heap"
	"slices"
	"testing"
)

// TestP8_3_WhatIsWrittenIsRead goes there and back, twice.
func TestP8_3_WhatIsWrittenIsRead(t *testing.T) {
	each(func(what string, h api.Heap, roots []int) {
		s := Encode(h, roots)
		wantRead(t, what, s, h, roots)
		g, l, _ := Decode(s)
		wantText(t, what, g, l, s)
	})
}

// TestP8_3_OneTextAlone: heaps and roots that aren't the same have texts that aren't, and those that are have one.
func TestP8_3_OneTextAlone(t *testing.T) {
	of, texts := map[string]string{}, map[string]string{}
	each(func(what string, h api.Heap, roots []int) {
		s, was := Encode(h, roots), told(h, roots)
		if other, ok := of[s]; ok && other != was {
			t.Fatalf("%s and\n%s have one text", was, other)
		}
		if other, ok := texts[was]; ok && other != s {
			t.Fatalf("%s has the texts\n%q and\n%q", was, s, other)
		}
		of[s], texts[was] = was, s
	})
	if len(of) < 500 || len(of) != len(texts) {
		t.Errorf("%d texts of %d", len(of), len(texts))
	}
}

// TestP8_3_EachPartCounts: nothing of a heap with roots is left out.
func TestP8_3_EachPartCounts(t *testing.T) {
	obj := turnedObj
	was := Encode(few(), []int{12, 1})
	for name, h := range map[string]api.Heap{
		"Cap":          turned(func(h *api.Heap) { h.Cap = 8 }),
		"Last":         turned(func(h *api.Heap) { h.Last = 78 }),
		"one more":     turned(func(h *api.Heap) { h.Objs = append(h.Objs, api.Obj{}) }),
		"other places": turned(func(h *api.Heap) { h.Objs[2], h.Objs[4] = h.Objs[4], h.Objs[2] }),
		"Class":        obj(6, func(o *api.Obj) { o.Class = 0 }),
		"Kind":         obj(4, func(o *api.Obj) { o.Kind = 0 }),
		"Hash":         obj(6, func(o *api.Obj) { o.Hash = mostOfHash }),
		"a slot":       obj(5, func(o *api.Obj) { o.Slots[2] = 11 }),
		"a slot more":  obj(5, func(o *api.Obj) { o.Slots = append(o.Slots, 0) }),
		"a byte":       obj(2, func(o *api.Obj) { o.Text = "a\x00\xfez" }),
		"a byte more":  obj(2, func(o *api.Obj) { o.Text += "\x00" }),
		"Bits":         obj(3, func(o *api.Obj) { o.Bits++ }),
		"their sign":   obj(3, func(o *api.Obj) { o.Bits ^= signed }),
	} {
		if s := Encode(h, []int{12, 1}); s == was || s == "" {
			t.Errorf("%s: %q", name, s)
		}
	}
	for _, roots := range [][]int{nil, {12}, {1, 12}, {12, 1, 1}, {12, -1}, {10, 1}} {
		if s := Encode(few(), roots); s == was || s == "" {
			t.Errorf("roots %v: %q", roots, s)
		}
	}
}

// TestP8_3_WhateverComes: of all texts that are read, the heap may be, and the roots are its values.
func TestP8_3_WhateverComes(t *testing.T) {
	s := spread(7)
	read := 0
	check := func(text string) {
		h, roots, e := Decode(text)
		if e != api.OK {
			wantError(t, "an error", text, e)
			return
		}
		read++
		noValue := func(v int) bool { return v%2 == 0 && (v < 0 || v >= 2*len(h.Objs)) || v < least || v > greatest }
		if !heap.May(h) || len(roots) > 64 || slices.ContainsFunc(roots, noValue) || Encode(h, roots) != text {
			t.Fatalf("%q: %s", text, told(h, roots))
		}
	}
	for i := range 20000 {
		check(s.text(i % 200))
		check(sealed(s.text(i % 200)))
		check(sealed("AN1" + four(1+s.below(256)) + four(s.below(1<<30)) + four(s.below(3)) + s.text(i%200)))
		k := s.below(len(fewText))
		check(sealed(fewText[:k] + s.text(1) + fewText[k+1:]))
	}
	if read < 1000 {
		t.Errorf("only %d are read", read)
	}
}

// TestR4_AnswersAreApart: who writes into one answer changes no other one, and no argument.
func TestR4_AnswersAreApart(t *testing.T) {
	h := few()
	roots := []int{12, 12, 12}
	text := Encode(h, roots)
	g, l, _ := Decode(text)
	other, m, _ := Decode(text)
	for i := range g.Objs {
		for k := range g.Objs[i].Slots {
			g.Objs[i].Slots[k] = 99
		}
		_ = append(g.Objs[i].Slots, 98)
		g.Objs[i].Hash = 97
	}
	for k := range l {
		l[k] = 96
	}
	if told(other, m) != told(few(), []int{12, 12, 12}) || told(h, roots) != told(other, m) {
		t.Errorf("others have changed: %s, %s", told(other, m), told(h, roots))
	}
	wantRead(t, "once more", text, few(), roots)
	h.Objs[1].Slots[1], roots[0] = 9, 10
	if text != sealed(byWords(few(), []int{12, 12, 12})) {
		t.Error("the text has changed")
	}
}

// TestR3_NothingIsKept asks for the same in between, behind texts that are wrong, too.
func TestR3_NothingIsKept(t *testing.T) {
	text := Encode(few(), []int{12})
	for name, h := range mayNotBe() {
		if Encode(h, []int{12}) != "" {
			t.Fatalf("%s has a text", name)
		}
		Decode(sealed(fewText[:len(fewText)-1]))
		Decode(text[:len(text)-1])
		wantRead(t, name, text, few(), []int{12})
		wantText(t, name, few(), []int{12}, text)
	}
}
