package proc_test

import (
	"anamnesis/api"
	"anamnesis/proc"
	"slices"
	"testing"
)

// TestP14_1_Processes: few has these, and no more.
func TestP14_1_Processes(t *testing.T) {
	for _, v := range all() {
		isProcess := 24 <= v && v <= 62 && v%2 == 0
		isSemaphore := v == 88 || v == 90 || v == 92
		wantKind(t, "few", few(), v, isProcess, isSemaphore)
		if mayByWords(few(), v) != isProcess || semByWords(few(), v) != isSemaphore {
			t.Fatalf("%d by words: %v, %v", v, !isProcess, !isSemaphore)
		}
	}
}

// TestP14_1_PriorityFromEndToEnd: 0 to 7, and none beside.
func TestP14_1_PriorityFromEndToEnd(t *testing.T) {
	may := []int{1, 3, 5, 7, 9, 11, 13, 15}
	for v := -70; v < 120; v++ {
		h := turnedSlot(12, 2, v)
		wantKind(t, "priority", h, 24, slices.Contains(may, v), false)
	}
	for _, v := range []int{least, least + 2, greatest, greatest - 2, 65537, 65543, 1<<16 + 3, 1<<30 + 3} {
		wantKind(t, "priority", turnedSlot(12, 2, v), 24, false, false)
	}
}

// TestP14_1_CountFromEndToEnd: SmallIntegers from 0 on.
func TestP14_1_CountFromEndToEnd(t *testing.T) {
	for v := -70; v < 120; v++ {
		wantKind(t, "count", turnedSlot(44, 0, v), 88, false, v > 0 && v%2 != 0)
	}
	for v, want := range map[int]bool{least: false, least + 2: false, greatest: true, greatest - 2: true, 65537: true, -65537: false, greatest + 2: false, greatest + 1: false} {
		wantKind(t, "count", turnedSlot(44, 0, v), 88, false, want)
	}
}

// TestP14_1_RefsFromEndToEnd: a process's next, context and list, and a semaphore's first, are refs of any objects.
func TestP14_1_RefsFromEndToEnd(t *testing.T) {
	for v := -70; v < 130; v++ {
		isRef := v%2 == 0 && 0 <= v && v < 120
		for _, slot := range []int{0, 1, 3} {
			wantKind(t, "ref", turnedSlot(12, slot, v), 24, isRef, false)
		}
		wantKind(t, "ref", turnedSlot(44, 1, v), 88, false, isRef)
	}
}

// TestP14_1_ClassFromEndToEnd: the ref of object 7, of object 8, and no other one; whatever these are.
func TestP14_1_ClassFromEndToEnd(t *testing.T) {
	for v := -4; v < 130; v++ {
		wantKind(t, "class", turnedObj(12, func(o *api.Obj) { o.Class = v }), 24, v == 14, false)
		wantKind(t, "class", turnedObj(44, func(o *api.Obj) { o.Class = v }), 88, false, v == 16)
	}
	for _, o := range []api.Obj{{}, {Kind: 1, Text: "x"}, {Kind: 2, Bits: 1}, process(0, 0, 1, 0), semaphore(1, 0)} {
		h := turned(func(h *api.Heap) { h.Objs[7], h.Objs[8] = o, o })
		wantKind(t, "classes of any kind", h, 24, true, false)
		wantKind(t, "classes of any kind", h, 88, false, true)
	}
}

// TestP14_1_SlotsFromEndToEnd: four, two, and no other number of them.
func TestP14_1_SlotsFromEndToEnd(t *testing.T) {
	for n := range 66 {
		proc := append([]int{0, 2, 1, 0}, make([]int, 62)...)[:n]
		wantKind(t, "slots", turnedObj(12, func(o *api.Obj) { o.Slots = proc }), 24, n == 4, false)
		sem := append([]int{1, 0}, make([]int, 64)...)[:n]
		wantKind(t, "slots", turnedObj(44, func(o *api.Obj) { o.Slots = sem }), 88, false, n == 2)
	}
}

// TestP14_1_FirstObjects may be processes and semaphores, as others.
func TestP14_1_FirstObjects(t *testing.T) {
	for i := range 12 {
		wantKind(t, "first", turned(func(h *api.Heap) { h.Objs[i] = process(0, 2, 7, 0) }), 2*i, true, false)
		wantKind(t, "first", turned(func(h *api.Heap) { h.Objs[i] = semaphore(7, 0) }), 2*i, false, true)
	}
	small := api.Heap{Cap: 8, Objs: make([]api.Obj, 8)}
	small.Objs[7] = process(0, 0, 1, 0)
	wantKind(t, "its own class", small, 14, true, false)
	small = api.Heap{Cap: 9, Objs: make([]api.Obj, 9)}
	small.Objs[8] = semaphore(1, 0)
	wantKind(t, "its own class", small, 16, false, true)
}

func TestP14_1_MayNotBe(t *testing.T) {
	for name, h := range mayNotBe() {
		for _, v := range all() {
			wantKind(t, name, h, v, false, false)
		}
	}
}

func TestP14_1_ListByHand(t *testing.T) {
	for _, first := range all() {
		want, ok := lists()[first]
		if !ok {
			wantList(t, "few", few(), first, nil, noList)
			continue
		}
		wantList(t, "few", few(), first, want, api.OK)
	}
	for name, x := range map[string]struct {
		h     api.Heap
		first int
		want  []int
	}{
		"longer":                {nexts(32, 34), 24, []int{24, 26, 28, 30, 32, 34, 36, 38, 40}},
		"in no order":           {nexts(32, 46, 46, 44, 44, 42), 28, []int{28, 30, 32, 46, 44, 42}},
		"two with one end":      {nexts(30, 40), 24, []int{24, 26, 28, 30, 40}},
		"back to the first":     {nexts(32, 24), 24, nil},
		"back into the list":    {nexts(32, 28), 24, nil},
		"back to the last":      {nexts(32, 32), 24, nil},
		"to itself":             {nexts(24, 24), 24, nil},
		"to no process":         {nexts(32, 64), 24, nil},
		"to the first object 1": {nexts(32, 2), 24, nil},
		"to one with a ring":    {nexts(32, 56), 24, nil},
		"a list is gone":        {turnedSlot(16, 3, 1), 24, nil},
		"a context is gone":     {turnedSlot(14, 1, 1), 24, nil},
	} {
		if x.want == nil {
			wantList(t, name, x.h, x.first, nil, noList)
			continue
		}
		wantList(t, name, x.h, x.first, x.want, api.OK)
	}
}

// TestP14_1_NoObjects: from 0 on there is nothing even where there is no object 0.
func TestP14_1_NoObjects(t *testing.T) {
	for _, h := range []api.Heap{{Cap: 1}, {Cap: 256}, {Cap: 1, Objs: []api.Obj{}}, {Cap: 1, Objs: make([]api.Obj, 1)}} {
		wantList(t, "no processes", h, 0, nil, api.OK)
		wantKind(t, "no processes", h, 0, false, false)
		for _, v := range []int{1, 2, 14, -2, signed, highest} {
			wantList(t, "no processes", h, v, nil, noList)
			wantKind(t, "no processes", h, v, false, false)
		}
	}
}

// TestP14_1_ObjectZero ends a list, and is one from which nothing comes, even where it is a process.
func TestP14_1_ObjectZero(t *testing.T) {
	for _, next := range []int{0, 2, 24, 64} {
		h := turned(func(h *api.Heap) { h.Objs[0] = process(next, 2, 7, 0) })
		wantList(t, "object 0 a process", h, 0, nil, api.OK)
		wantList(t, "object 0 a process", h, 24, lists()[24], api.OK)
		wantKind(t, "object 0 a process", h, 0, true, false)
	}
}

// TestP14_1_Long: as many as a heap has room for.
func TestP14_1_Long(t *testing.T) {
	h, want := long(256)
	wantList(t, "long", h, 24, want, api.OK)
	h.Objs[255].Slots[0] = 24
	wantList(t, "a long ring", h, 24, nil, noList)
	h.Objs[255].Slots[0] = 510
	wantList(t, "the last one next to itself", h, 24, nil, noList)
}

// long is a heap of n objects, of which all from number 12 on are processes of one list; and that.
func long(n int) (api.Heap, []int) {
	h := api.Heap{Cap: n, Objs: make([]api.Obj, n)}
	var l []int
	for i := 12; i < n; i++ {
		h.Objs[i] = process(2*i+2, 2, 7, 0)
		l = append(l, 2*i)
	}
	h.Objs[n-1].Slots[0] = 0
	return h, l
}

func TestP14_1_ListMayNotBe(t *testing.T) {
	for name, h := range mayNotBe() {
		for _, first := range all() {
			wantList(t, name, h, first, nil, api.ErrArg)
		}
	}
}

// TestP14_1_Numbers: the errors and the bounds are those that the chapters name.
func TestP14_1_Numbers(t *testing.T) {
	_, e := proc.List(api.Heap{}, 0)
	_, _, p := proc.Insert(few(), 0, 0)
	_, l := proc.List(few(), 2)
	if e != 1 || p != 140 || l != 141 {
		t.Errorf("the errors are %d, %d, %d", e, p, l)
	}
}
