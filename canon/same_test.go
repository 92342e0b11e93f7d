package canon

import (
	"anamnesis/api"
	"slices"
	"strconv"
	"testing"
)

// TestP6_2_SameInAnotherOrder moves the objects of few, and of others, to other numbers.
func TestP6_2_SameInAnotherOrder(t *testing.T) {
	back := all(11)
	slices.Reverse(back)
	s := spread(5)
	for _, to := range [][]int{all(11), back, {1, 0, 3, 2, 5, 4, 7, 6, 9, 8, 10}, s.order(11), s.order(11)} {
		for _, c := range cases() {
			a := rooted{few(), c.roots}
			wantSame(t, "moved", a, moved(a, to), true)
		}
	}
	for range 500 {
		n := 1 + s.below(40)
		a := rooted{s.heap(n, 1<<30), s.values(6, n)}
		wantSame(t, "moved", a, moved(a, s.order(n)), true)
	}
	for _, h := range full() {
		a := rooted{h, []int{510, 0, 3, 254}}
		wantSame(t, "moved", a, moved(a, s.order(256)), true)
	}
}

// TestP6_2_SameByHand has heaps of two and three objects with their pairs told.
func TestP6_2_SameByHand(t *testing.T) {
	one := api.Heap{Cap: 1, Objs: []api.Obj{{}}}
	two := api.Heap{Cap: 2, Objs: []api.Obj{{}, {}}}           // both of the class that is the first one
	apart := api.Heap{Cap: 2, Objs: []api.Obj{{}, {Class: 2}}} // each its own class
	other := api.Heap{Cap: 2, Objs: []api.Obj{{Class: 2}, {}}} // each the other's class
	turned := api.Heap{Cap: 2, Objs: []api.Obj{{Class: 2}, {Class: 2}}}
	ring := api.Heap{Cap: 3, Objs: []api.Obj{{Slots: []int{2}}, {Slots: []int{4}}, {Slots: []int{0}}}}
	for _, c := range []struct {
		what string
		a, b rooted
		want bool
	}{
		{"no roots", rooted{one, nil}, rooted{ring, nil}, true},
		{"no roots, no objects", rooted{api.Heap{Cap: 1}, nil}, rooted{two, nil}, true},
		{"SmallIntegers", rooted{one, []int{3, -1}}, rooted{two, []int{3, -1}}, true},
		{"SmallIntegers, no objects", rooted{api.Heap{Cap: 1}, []int{1}}, rooted{two, []int{1}}, true},
		{"another SmallInteger", rooted{one, []int{3, -1}}, rooted{one, []int{3, 1}}, false},
		{"another one, no objects", rooted{api.Heap{Cap: 1}, []int{1}}, rooted{api.Heap{Cap: 1}, []int{3}}, false},
		{"a SmallInteger, and a ref", rooted{one, []int{1}}, rooted{one, []int{0}}, false},
		{"another number of SmallIntegers", rooted{one, []int{1}}, rooted{one, []int{1, 1}}, false},
		{"another number of roots", rooted{one, []int{0}}, rooted{one, []int{0, 0}}, false},
		{"roots, and none", rooted{one, []int{0}}, rooted{one, nil}, false},
		{"a root told twice", rooted{one, []int{0, 0}}, rooted{one, []int{0, 0}}, true},
		{"one object, and two alike", rooted{apart, []int{0, 0}}, rooted{apart, []int{0, 2}}, false},
		{"two alike, either way round", rooted{apart, []int{0, 2}}, rooted{apart, []int{2, 0}}, true},
		{"its own class, and another one that is that", rooted{two, []int{2}}, rooted{one, []int{0}}, false},
		{"its own class, by number 0 and 1", rooted{apart, []int{2}}, rooted{one, []int{0}}, true},
		{"each the other's class, and its own", rooted{other, []int{0}}, rooted{apart, []int{0}}, false},
		{"each the other's class, from either", rooted{other, []int{0}}, rooted{other, []int{2}}, true},
		{"the same class of two, at another number", rooted{two, []int{2, 0}}, rooted{turned, []int{0, 2}}, true},
		{"the same roots in another order", rooted{two, []int{2, 0}}, rooted{two, []int{0, 2}}, false},
		{"the same roots in another order, one a SmallInteger", rooted{one, []int{0, 3}}, rooted{one, []int{3, 0}}, false},
		{"one more that is reached", rooted{two, []int{0, 2}}, rooted{two, []int{0, 0}}, false},
		{"round from one further", rooted{ring, []int{2}}, rooted{ring, []int{4}}, false},
	} {
		wantSame(t, c.what, c.a, c.b, c.want)
		if isSame(c.a, c.b) != c.want {
			t.Fatalf("%s: by the chapter's words it is not so", c.what)
		}
	}
}

// TestP6_2_SharedOrTwoAlike: who holds one object twice isn't the same as who holds two that are alike, by class, slots, or both.
func TestP6_2_SharedOrTwoAlike(t *testing.T) {
	leaf := api.Obj{Kind: 1, Text: "x"}
	heap := func(objs ...api.Obj) api.Heap { return api.Heap{Cap: 5, Objs: append([]api.Obj{{}}, objs...)} }
	shared := heap(api.Obj{Slots: []int{4, 4}}, leaf)
	alike := heap(api.Obj{Slots: []int{4, 6}}, leaf, leaf)
	wantSame(t, "slots", rooted{shared, []int{2}}, rooted{alike, []int{2}}, false)
	round := heap(api.Obj{Slots: []int{6, 4}}, leaf, leaf)
	wantSame(t, "two alike, either way round", rooted{round, []int{2}}, rooted{alike, []int{2}}, true)
	wantSame(t, "and a root of them", rooted{round, []int{2, 4}}, rooted{alike, []int{2, 4}}, false)
	wantSame(t, "and the other one", rooted{round, []int{2, 4}}, rooted{alike, []int{2, 6}}, true)

	classes := heap(api.Obj{Class: 6}, api.Obj{Class: 6}, leaf)
	two := heap(api.Obj{Class: 6}, api.Obj{Class: 8}, leaf, leaf)
	wantSame(t, "classes", rooted{classes, []int{2, 4}}, rooted{two, []int{2, 4}}, false)
	wantSame(t, "from one of both", rooted{classes, []int{2}}, rooted{two, []int{4}}, true)
	both := heap(api.Obj{Class: 4, Slots: []int{4}}, leaf)
	other := heap(api.Obj{Class: 4, Slots: []int{6}}, leaf, leaf)
	wantSame(t, "a class and a slot", rooted{both, []int{2}}, rooted{other, []int{2}}, false)
}

// changes are what may be done to an object, that then is another one. None of them makes of a heap one that may not be.
func changes(h api.Heap, i int) map[string]api.Heap {
	l := map[string]api.Heap{}
	change := func(what string, do func(o *api.Obj)) {
		g := copyOf(h)
		do(&g.Objs[i])
		l[what] = g
	}
	change("Hash", func(o *api.Obj) { o.Hash ^= 1 })
	change("the highest bit of Hash", func(o *api.Obj) { o.Hash ^= 1 << 29 })
	switch o := h.Objs[i]; o.Kind {
	case 0:
		if len(o.Slots) == 0 {
			change("Kind 1", func(o *api.Obj) { o.Kind = 1 })
			change("Kind 2", func(o *api.Obj) { o.Kind = 2 })
		}
		change("a slot more", func(o *api.Obj) { o.Slots = append(o.Slots, 1) })
		change("a slot more, of itself", func(o *api.Obj) { o.Slots = append(o.Slots, 2*i) })
	case 1:
		if o.Text == "" {
			change("Kind 0", func(o *api.Obj) { o.Kind = 0 })
			change("Kind 2", func(o *api.Obj) { o.Kind = 2 })
		}
		for k := range len(o.Text) {
			change("byte "+strconv.Itoa(k), func(o *api.Obj) { o.Text = o.Text[:k] + string([]byte{o.Text[k] ^ 1}) + o.Text[k+1:] })
		}
		change("a byte more", func(o *api.Obj) { o.Text += "\x00" })
		change("a byte ahead", func(o *api.Obj) { o.Text = "\xff" + o.Text })
	case 2:
		change("Bits", func(o *api.Obj) { o.Bits = 3 })
		if o.Bits != theNaN {
			change("the lowest of Bits", func(o *api.Obj) { o.Bits ^= 1 })
			change("the highest of Bits", func(o *api.Obj) { o.Bits ^= signed })
		}
		change("Bits of zero, signed", func(o *api.Obj) { o.Bits = signed })
		change("Kind 1", func(o *api.Obj) { o.Kind, o.Bits = 1, 0 })
	}
	for k, v := range h.Objs[i].Slots {
		at := " in slot " + strconv.Itoa(k)
		if v%2 == 0 {
			change("a SmallInteger"+at, func(o *api.Obj) { o.Slots[k] = v + 1 })
		} else {
			change("another SmallInteger"+at, func(o *api.Obj) { o.Slots[k] = 99 })
			change("the one below 0"+at, func(o *api.Obj) { o.Slots[k] = -v })
			change("a ref of it"+at, func(o *api.Obj) { o.Slots[k] = 2 * i })
		}
		change("none"+at, func(o *api.Obj) { o.Slots = slices.Delete(o.Slots, k, k+1) })
	}
	return l
}

// TestP6_2_ChangedObjects changes each object of few: where it is reached, nothing is the same; where it isn't, all is.
func TestP6_2_ChangedObjects(t *testing.T) {
	s := spread(6)
	for _, c := range cases() {
		a := rooted{few(), c.roots}
		met := metOf(a.h, a.roots)
		for i := range a.h.Objs {
			to := s.order(11)
			for what, g := range changes(a.h, i) {
				b := moved(rooted{g, a.roots}, to)
				wantSame(t, what, a, b, !slices.Contains(met, i))
			}
		}
	}
}

// TestP6_2_ChangedRefs sets each class and slot to each object, of few and of others, and holds it against the chapter's words.
func TestP6_2_ChangedRefs(t *testing.T) {
	s := spread(7)
	check := func(a rooted, g api.Heap) {
		b := moved(rooted{g, a.roots}, s.order(len(g.Objs)))
		wantSame(t, "another ref", a, b, isSame(a, b))
	}
	for range 150 {
		a := rooted{s.heap(5, 2), append(s.values(3, 5), 2*s.below(5))}
		for i, o := range a.h.Objs {
			for _, v := range refs(all(5)) {
				g := copyOf(a.h)
				g.Objs[i].Class = v
				check(a, g)
				for k := range o.Slots {
					g := copyOf(a.h)
					g.Objs[i].Slots[k] = v
					check(a, g)
				}
			}
		}
	}
}

// TestP6_2_CapAndLastDoNotCount: nor does what is not reached.
func TestP6_2_CapAndLastDoNotCount(t *testing.T) {
	other := turned(func(h *api.Heap) {
		h.Cap, h.Last = 256, 0
		h.Objs = append(h.Objs, api.Obj{Class: 14, Slots: []int{22, 3}}, api.Obj{Kind: 1, Text: "not reached"})
	})
	back := all(13)
	slices.Reverse(back)
	for _, c := range cases() {
		a, b := rooted{few(), c.roots}, rooted{other, c.roots}
		wantSame(t, "another Cap, Last, and objects more", a, b, true)
		wantSame(t, "and in another order", a, moved(b, back), true)
		wantSame(t, "with one of these", rooted{few(), append([]int{3}, c.roots...)}, rooted{other, append([]int{22}, c.roots...)}, false)
	}
}

// TestP6_2_RootsCount takes roots away, adds some, and turns them round.
func TestP6_2_RootsCount(t *testing.T) {
	for _, c := range cases() {
		a := rooted{few(), c.roots}
		wantSame(t, "itself", a, a, true)
		wantSame(t, "a SmallInteger more", a, rooted{few(), append(slices.Clone(c.roots), 1)}, false)
		for k, v := range c.roots {
			wantSame(t, "one less", a, rooted{few(), slices.Delete(slices.Clone(c.roots), k, k+1)}, false)
			wantSame(t, "one told once more", a, rooted{few(), slices.Insert(slices.Clone(c.roots), k, v)}, false)
			other := slices.Clone(c.roots)
			other[k] = 97
			wantSame(t, "another SmallInteger", a, rooted{few(), other}, false)
		}
	}
	// No two objects of few are pairs, if not each is its own one.
	for i := range 11 {
		for k := range 11 {
			wantSame(t, "one root", rooted{few(), []int{2 * i}}, rooted{few(), []int{2 * k}}, i == k)
			wantSame(t, "two roots", rooted{few(), []int{2 * i, 2 * k}}, rooted{few(), []int{2 * k, 2 * i}}, i == k)
		}
	}
}

// TestP6_2_FalseBesideAnError: also where both are one and the same, and where only the other one has an error.
func TestP6_2_FalseBesideAnError(t *testing.T) {
	right := rooted{few(), []int{4}}
	wantSame(t, "right", right, right, true)
	for _, v := range noValues() {
		for _, roots := range [][]int{{v}, {4, v}, {v, 4}} {
			wrong := rooted{few(), roots}
			wantSame(t, "no value, twice", wrong, wrong, false)
			wantSame(t, "no value", wrong, right, false)
			wantSame(t, "no value, as many", wrong, rooted{few(), []int{4, 4}}, false)
		}
	}
	for name, h := range mayNotBe() {
		for _, roots := range [][]int{nil, {1}, {4}, {22}} {
			wrong := rooted{h, roots}
			wantSame(t, name+", twice", wrong, wrong, false)
			wantSame(t, name, wrong, right, false)
			wantSame(t, name+", no roots", wrong, rooted{few(), nil}, false)
			wantSame(t, name+", and no value", wrong, rooted{few(), []int{22}}, false)
		}
	}
}
