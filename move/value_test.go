package move

import (
	"anamnesis/api"
	"testing"
)

// tables are some that Table answers, and others, of numbers that are no object's.
func tables() [][]int {
	return [][]int{
		nil, {}, {-1}, {0}, {0, -1, 1}, {2, 1, 0}, {5, 5, 5}, {afterRefs - 1, afterRefs, afterRefs + 1, 0},
		{-2, signed, highest, 7, signed + 1, 1 << 62, 1 << 32}, all(300), make([]int, 1000),
	}
}

// TestP5_1_ValueOfSmallIntegers: each is itself, by any table.
func TestP5_1_ValueOfSmallIntegers(t *testing.T) {
	for _, table := range tables() {
		for v := -601; v < 602; v += 2 {
			wantValue(t, table, v, v, true)
		}
		for _, v := range []int{greatest, greatest - 2, least, least + 2, lastRef + 1, lastRef + 3} {
			wantValue(t, table, v, v, true)
		}
	}
}

func TestP5_1_ValueOfRefs(t *testing.T) {
	table := []int{0, -1, 1, -1, 2}
	for v, want := range map[int]int{0: 0, 4: 2, 8: 4} {
		wantValue(t, table, v, want, true)
	}
	for _, v := range []int{2, 6, 10, 12, -2} {
		wantValue(t, table, v, 0, false)
	}
	// Two objects of one number are no matter of Value's.
	for _, v := range []int{0, 2, 4} {
		wantValue(t, []int{5, 5, 5}, v, 10, true)
	}
}

// TestP5_1_ValueOfAnyTable holds each ref against what stands in its place.
func TestP5_1_ValueOfAnyTable(t *testing.T) {
	for _, table := range tables() {
		for i, to := range table {
			if 0 <= to && to < afterRefs {
				wantValue(t, table, 2*i, 2*to, true)
			} else {
				wantValue(t, table, 2*i, 0, false)
			}
		}
		for i := range 300 {
			wantValue(t, table, 2*(len(table)+i), 0, false)
			wantValue(t, table, -2*i-2, 0, false)
		}
	}
}

// TestP5_1_ValueBeyondTheTable: refs of objects that the table has no number of, the last one of all among them.
func TestP5_1_ValueBeyondTheTable(t *testing.T) {
	for _, table := range tables() {
		for _, v := range []int{2000, 2002, lastRef - 2, lastRef} {
			wantValue(t, table, v, 0, false)
		}
	}
}

// TestP5_1_ValueOfNoValue: also where the table is so long that it has a number in the place.
func TestP5_1_ValueOfNoValue(t *testing.T) {
	long := make([]int, afterRefs+2)
	long[afterRefs-1] = 3
	wantValue(t, long, lastRef, 6, true)
	for _, table := range append(tables(), long) {
		for _, v := range []int{lastRef + 2, lastRef + 4, -2, -4, greatest + 1, greatest + 2, greatest + 4, least - 1, least - 2, 1 << 32, 1<<32 + 1, signed, signed + 1, signed + 2, highest - 1, highest} {
			wantValue(t, table, v, 0, false)
		}
	}
}

// TestP5_1_ValueByTable: by a table that Table answers, just what is reached has a value, and no two objects the same.
func TestP5_1_ValueByTable(t *testing.T) {
	each(func(h api.Heap, roots []int) {
		table, e := Table(h, roots)
		if e != api.OK {
			t.Fatalf("Table from %v: error %d", roots, e)
		}
		reached := live(t, h, roots)
		for k, i := range reached {
			wantValue(t, table, 2*i, 2*k, true)
		}
		values := 0
		for i := range len(h.Objs) + 3 {
			if _, ok := Value(table, 2*i); ok {
				values++
			}
		}
		if values != len(reached) {
			t.Fatalf("from %v: %d refs have a value; %d objects are reached", roots, values, len(reached))
		}
	})
}
