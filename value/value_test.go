package value

import (
	"strconv"
	"testing"
)

// The bounds stand here as numbers of their own, so that a test doesn't follow the code into a mistake.
const (
	least    = -1073741824
	greatest = 1073741823
	refs     = 1048576
	lowest   = -1 << 63
	highest  = 1<<63 - 1
)

// outOfBoundsInts are no SmallIntegers; the doubles of some wrap round into bounds.
var outOfBoundsInts = []int{
	least - 1, greatest + 1, least * 2, greatest * 2, 1 << 32, -1 << 32,
	1 << 62, 1<<62 + 1, -1 << 62, lowest, lowest + 1, lowest + 5, highest, highest - 1,
}

// outOfBoundsRefs are no numbers of objects; the doubles of some wrap round into bounds.
var outOfBoundsRefs = []int{
	-1, -2, -refs, refs, refs + 1, refs * 2, 1 << 30, 1 << 32,
	1 << 62, -1 << 62, lowest, lowest + 1, lowest + 5, highest, highest - 1,
}

// noValues are odd ones beyond the SmallIntegers', and even ones that no object has.
var noValues = []int{
	2*greatest + 3, 2*least - 1, 2*greatest + 5, 1<<32 + 1, -1<<32 + 1, highest, lowest + 1,
	-2, -4, 2 * refs, 2*refs + 2, 1 << 31, 1 << 32, 1 << 62, -1 << 31, highest - 1, lowest,
}

// someInts goes from end to end, with a stride that is no power of two, and holds both ends' neighbours.
func someInts() []int {
	l := []int{least, least + 1, least + 2, -3, -2, -1, 0, 1, 2, 3, greatest - 2, greatest - 1, greatest}
	for n := least; n <= greatest; n += 10007 {
		l = append(l, n)
	}
	return l
}

func TestP1_1_Int(t *testing.T) {
	for n, want := range map[int]int{
		0: 1, 1: 3, 2: 5, 3: 7, -1: -1, -2: -3, -3: -5,
		greatest: 2147483647, greatest - 1: 2147483645,
		least: -2147483647, least + 1: -2147483645,
	} {
		if v, ok := Int(n); v != want || !ok {
			t.Errorf("Int(%d) = %d, %v; want %d, true", n, v, ok, want)
		}
	}
	for _, n := range someInts() {
		if v, ok := Int(n); v != 2*n+1 || !ok {
			t.Errorf("Int(%d) = %d, %v", n, v, ok)
		}
	}
	for _, n := range outOfBoundsInts {
		if v, ok := Int(n); v != 0 || ok {
			t.Errorf("Int(%d) = %d, %v; want 0, false", n, v, ok)
		}
	}
}

func TestP1_1_Ref(t *testing.T) {
	for i, want := range map[int]int{0: 0, 1: 2, 2: 4, 3: 6, 256: 512, refs - 1: 2097150, refs - 2: 2097148} {
		if v, ok := Ref(i); v != want || !ok {
			t.Errorf("Ref(%d) = %d, %v; want %d, true", i, v, ok, want)
		}
	}
	for i := range refs {
		if v, ok := Ref(i); v != 2*i || !ok {
			t.Fatalf("Ref(%d) = %d, %v", i, v, ok)
		}
	}
	for _, i := range outOfBoundsRefs {
		if v, ok := Ref(i); v != 0 || ok {
			t.Errorf("Ref(%d) = %d, %v; want 0, false", i, v, ok)
		}
	}
}

func TestP1_1_N(t *testing.T) {
	for v, want := range map[int]int{
		1: 0, 3: 1, 7: 3, -1: -1, -3: -2, -5: -3,
		2147483647: greatest, 2147483645: greatest - 1,
		-2147483647: least, -2147483645: least + 1,
	} {
		if n, ok := N(v); n != want || !ok {
			t.Errorf("N(%d) = %d, %v; want %d, true", v, n, ok, want)
		}
	}
	for _, v := range append([]int{0, 2, 6, 2*refs - 2}, noValues...) {
		if n, ok := N(v); n != 0 || ok {
			t.Errorf("N(%d) = %d, %v; want 0, false", v, n, ok)
		}
	}
}

func TestP1_1_At(t *testing.T) {
	for v, want := range map[int]int{0: 0, 2: 1, 4: 2, 6: 3, 2*refs - 2: refs - 1, 2*refs - 4: refs - 2} {
		if i, ok := At(v); i != want || !ok {
			t.Errorf("At(%d) = %d, %v; want %d, true", v, i, ok, want)
		}
	}
	for _, v := range append([]int{1, 3, 7, -1, -3, 2*greatest + 1, 2*least + 1}, noValues...) {
		if i, ok := At(v); i != 0 || ok {
			t.Errorf("At(%d) = %d, %v; want 0, false", v, i, ok)
		}
	}
}

func TestP1_1_May(t *testing.T) {
	for _, v := range []int{0, 1, 2, 3, 6, 7, -1, -3, 2*refs - 2, 2*refs - 1, 2*refs + 1, 2*greatest + 1, 2*least + 1} {
		if !May(v) {
			t.Errorf("May(%d) = false", v)
		}
	}
	for _, v := range noValues {
		if May(v) {
			t.Errorf("May(%d) = true", v)
		}
	}
}

func TestP1_2_Text(t *testing.T) {
	for v, want := range map[int]string{
		1: "0", 3: "1", 7: "3", 21: "10", -1: "-1", -3: "-2", -19: "-10",
		2*greatest + 1: "1073741823", 2*least + 1: "-1073741824",
		0: "@0", 2: "@1", 6: "@3", 20: "@10", 2*refs - 2: "@1048575", 2*refs + 1: "1048576",
	} {
		if s := Text(v); s != want {
			t.Errorf("Text(%d) = %q; want %q", v, s, want)
		}
	}
	for _, v := range noValues {
		if s := Text(v); s != "" {
			t.Errorf("Text(%d) = %q; want nothing", v, s)
		}
	}
}

// checkKind holds N, At, May and Text against one another: a value is of one kind, whatever is no value of none.
func checkKind(t *testing.T, v int) {
	t.Helper()
	n, isInt := N(v)
	i, isRef := At(v)
	if isInt && isRef {
		t.Fatalf("%d is a SmallInteger's, and a ref", v)
	}
	if May(v) != (isInt || isRef) {
		t.Fatalf("May(%d) = %v", v, May(v))
	}
	want := ""
	if isInt {
		want = strconv.Itoa(n)
	}
	if isRef {
		want = "@" + strconv.Itoa(i)
	}
	if s := Text(v); s != want {
		t.Fatalf("Text(%d) = %q; want %q", v, s, want)
	}
	if back, ok := Int(n); isInt && (back != v || !ok) {
		t.Fatalf("Int(N(%d)) = %d, %v", v, back, ok)
	}
	if back, ok := Ref(i); isRef && (back != v || !ok) {
		t.Fatalf("Ref(At(%d)) = %d, %v", v, back, ok)
	}
}

func TestP1_3_OneKindOneNumber(t *testing.T) {
	for _, edge := range []int{0, 2 * refs, 2 * greatest, 2 * least, 1 << 32, -1 << 32, 1 << 62, -1 << 62} {
		for v := edge - 1000; v <= edge+1000; v++ {
			checkKind(t, v)
		}
	}
	for k := range 1000 {
		checkKind(t, lowest+k)
		checkKind(t, highest-k)
	}
	for v := 2*least - 100000; v <= 2*greatest+100000; v += 4999 {
		checkKind(t, v)
	}
}

func TestP1_3_NumbersComeBack(t *testing.T) {
	for _, n := range someInts() {
		v, _ := Int(n)
		if m, ok := N(v); m != n || !ok || !May(v) {
			t.Fatalf("N(Int(%d)) = %d, %v", n, m, ok)
		}
		if i, ok := At(v); i != 0 || ok {
			t.Fatalf("At(Int(%d)) = %d, %v", n, i, ok)
		}
	}
	for i := range refs {
		v, _ := Ref(i)
		if k, ok := At(v); k != i || !ok || !May(v) {
			t.Fatalf("At(Ref(%d)) = %d, %v", i, k, ok)
		}
		if n, ok := N(v); n != 0 || ok {
			t.Fatalf("N(Ref(%d)) = %d, %v", i, n, ok)
		}
	}
}
