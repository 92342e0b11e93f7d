package mark

import (
	"anamnesis/api"
	"slices"
	"testing"
)

// refs are the values of the objects with those numbers.
func refs(numbers []int) []int {
	var l []int
	for _, i := range numbers {
		l = append(l, 2*i)
	}
	return l
}

// numbers are those of the objects whose refs are among the values.
func numbers(values []int) []int {
	var l []int
	for _, v := range values {
		if v%2 == 0 {
			l = append(l, v/2)
		}
	}
	return l
}

// isPart tells whether all of a is in b.
func isPart(a, b []int) bool {
	return !slices.ContainsFunc(a, func(i int) bool { return !slices.Contains(b, i) })
}

// each goes through few, full heaps and many others, each with some of its roots.
func each(yield func(h api.Heap, roots []int)) {
	for n := range 1 << 11 {
		var roots []int
		for i := range 11 {
			if n>>i&1 == 1 {
				roots = append(roots, 2*i)
			}
		}
		yield(few(), roots)
	}
	for _, c := range full() {
		yield(c.h, []int{c.root})
		yield(c.h, []int{300, 20, 7, 300})
	}
	s := spread(3)
	for range 1000 {
		n := 1 + s.below(40)
		yield(s.heap(n), s.roots(n))
	}
}

func live(t *testing.T, h api.Heap, roots []int) []int {
	t.Helper()
	l, e := Live(h, roots)
	if e != api.OK {
		t.Fatalf("Live from %v: error %d", roots, e)
	}
	return l
}

// TestP4_3_ReachedFromReached: once more from all that was reached, and from each of it, nothing is added; and the roots are among it.
func TestP4_3_ReachedFromReached(t *testing.T) {
	each(func(h api.Heap, roots []int) {
		l := live(t, h, roots)
		if again := live(t, h, refs(l)); !slices.Equal(again, l) {
			t.Fatalf("from %v: %v; from these: %v", roots, l, again)
		}
		for _, i := range l {
			if further := live(t, h, []int{2 * i}); !isPart(further, l) || !slices.Contains(further, i) {
				t.Fatalf("from %v: %v; from %d of these: %v", roots, l, i, further)
			}
			if held := numbers(append(h.Objs[i].Slots, h.Objs[i].Class)); !isPart(held, l) {
				t.Fatalf("from %v: %v; but object %d has %v", roots, l, i, held)
			}
		}
		if !isPart(numbers(roots), l) {
			t.Fatalf("from %v: %v: not all roots", roots, l)
		}
		if !slices.IsSorted(l) || len(slices.Compact(slices.Clone(l))) != len(l) {
			t.Fatalf("from %v: %v does not rise", roots, l)
		}
	})
}

// TestP4_3_LessRoots takes each root away, and turns them round.
func TestP4_3_LessRoots(t *testing.T) {
	each(func(h api.Heap, roots []int) {
		l := live(t, h, roots)
		for k := range roots {
			less := slices.Delete(slices.Clone(roots), k, k+1)
			if got := live(t, h, less); !isPart(got, l) {
				t.Fatalf("from %v: %v; from %v: %v", roots, l, less, got)
			}
			// What only this root reaches is what it reaches alone.
			alone := live(t, h, roots[k:k+1])
			both := append(live(t, h, less), alone...)
			slices.Sort(both)
			if !slices.Equal(slices.Compact(both), l) {
				t.Fatalf("from %v: %v; from %v, and %d: %v", roots, l, less, roots[k], both)
			}
		}
		round := slices.Clone(roots)
		slices.Reverse(round)
		if got := live(t, h, round); !slices.Equal(got, l) {
			t.Fatalf("from %v: %v; turned round: %v", roots, l, got)
		}
		if got := live(t, h, append(round, roots...)); !slices.Equal(got, l) {
			t.Fatalf("from %v: %v; all told twice: %v", roots, l, got)
		}
	})
}

// TestR1_ManyRoots: there may be far more roots than objects.
func TestR1_ManyRoots(t *testing.T) {
	many := make([]int, 1000000)
	for i := range many {
		many[i] = 12 + i%3
	}
	wantLive(t, few(), many, []int{0, 6, 7})
	if l, e := Live(few(), append(many, 22)); e != api.ErrRef || l != nil {
		t.Errorf("and one that is none: %v, %d", l, e)
	}
}

// TestR3_NothingKept: what was asked before does not count.
func TestR3_NothingKept(t *testing.T) {
	for range 3 {
		wantLive(t, few(), []int{18}, []int{4, 5, 9})
		wantNothing(t, "between", few(), []int{18, 22}, api.ErrRef)
		wantNothing(t, "between", api.Heap{}, []int{18}, api.ErrArg)
		wantLive(t, few(), []int{6}, []int{3})
		wantLive(t, few(), nil, nil)
		wantLive(t, turnedObj(3, func(o *api.Obj) { o.Class = 0 }), []int{6}, []int{0, 3})
	}
}

// TestR4_NoSharedMemory: neither who writes into an answer changes an argument, or another answer, nor the other way round.
func TestR4_NoSharedMemory(t *testing.T) {
	h, roots := few(), []int{0, 12, 14}
	l, _ := Live(h, roots)
	other, _ := Live(h, roots)
	spoil(l)
	wantHeap(t, h, copyOf(few()))
	if !slices.Equal(roots, []int{0, 12, 14}) || !slices.Equal(other, []int{0, 6, 7}) {
		t.Errorf("roots %v, another answer %v", roots, other)
	}
	spoil(roots)
	for i := range h.Objs {
		spoil(h.Objs[i].Slots)
	}
	if !slices.Equal(other, []int{0, 6, 7}) {
		t.Errorf("an answer has changed to %v", other)
	}
}

// spoil writes into all memory that l has, beyond its end, too.
func spoil(l []int) {
	l = l[:cap(l)]
	for i := range l {
		l[i] = 999
	}
}

// TestR5_EmptyIsNil: an empty list is as good as a nil one.
func TestR5_EmptyIsNil(t *testing.T) {
	h := few()
	for _, i := range []int{0, 2, 3, 4, 9, 10} {
		h.Objs[i].Slots = []int{}
	}
	for i := range h.Objs {
		wantLive(t, h, []int{2 * i}, reached(few(), []int{2 * i}))
	}
	wantLive(t, h, []int{}, nil)
	wantLive(t, api.Heap{Cap: 1, Objs: []api.Obj{}}, []int{}, nil)
	wantNothing(t, "no objects", api.Heap{Cap: 1, Objs: []api.Obj{}}, []int{0}, api.ErrRef)
}
