package snap

import (
	"anamnesis/api"
	"slices"
	"strings"
	"testing"
)

// fewText is few's text with the roots 12, -1 and 7, without its sum, byte by byte.
const fewText = "AN1\x09\x00\x00\x00\x4d\x00\x00\x00\x07\x00\x00\x00" +
	"\x00\x00\x00\x00\x00\x00\x00\x00\x0a\x00\x00\x00\x00\x00\x00\x00" +
	"\x00\x00\x00\x00\x00\x00\x00\x00\x0b\x00\x00\x00\x04\x00\x00\x00\x00\x00\x00\x00\x07\x00\x00\x00\x0c\x00\x00\x00\xff\xff\xff\xff" +
	"\x02\x00\x00\x00\x01\x00\x00\x00\x0c\x00\x00\x00\x04\x00\x00\x00a\x00\xffz" +
	"\x02\x00\x00\x00\x02\x00\x00\x00\x0d\x00\x00\x00\x00\x00\x00\x00\x00\x00\xf0\x3f" +
	"\x0a\x00\x00\x00\x01\x00\x00\x00\x00\x00\x00\x00\x00\x00\x00\x00" +
	"\x0a\x00\x00\x00\x00\x00\x00\x00\xff\xff\xff\x3f\x03\x00\x00\x00\xff\xff\xff\x7f\x01\x00\x00\x80\x0a\x00\x00\x00" +
	"\x0c\x00\x00\x00\x02\x00\x00\x00\x00\x00\x00\x00\x08\x07\x06\x05\x04\x03\x02\x81" +
	"\x03\x00\x00\x00\x0c\x00\x00\x00\xff\xff\xff\xff\x07\x00\x00\x00"

func TestP8_1_ByHand(t *testing.T) {
	wantText(t, "few", few(), []int{12, -1, 7}, sealed(fewText))
	none := "AN1\x01\x00\x00\x00\x00\x00\x00\x00\x00\x00\x00\x00\x00\x00\x00\x00"
	wantText(t, "no objects", api.Heap{Cap: 1}, nil, none+"\xa3\x36\x7e\xf3")
	if s := sealed(none); s != none+"\xa3\x36\x7e\xf3" {
		t.Errorf("no objects: %q", s)
	}
	full := "AN1\x00\x01\x00\x00\xff\xff\xff\x3f\x00\x00\x00\x00\x02\x00\x00\x00\x01\x00\x00\x80\xff\xff\xff\x7f"
	wantText(t, "no objects, but roots", api.Heap{Cap: 256, Last: mostOfHash}, []int{least, greatest}, sealed(full))
}

// TestP8_1_Example: one object that is its own class, Cap 3, no roots.
func TestP8_1_Example(t *testing.T) {
	s := Encode(api.Heap{Cap: 3, Objs: []api.Obj{{}}}, nil)
	if len(s) != 39 || s != sealed("AN1\x03\x00\x00\x00\x00\x00\x00\x00\x01"+strings.Repeat("\x00", 23)) {
		t.Errorf("%d bytes: %q", len(s), s)
	}
}

func TestP8_1_ByWords(t *testing.T) {
	each(func(what string, h api.Heap, roots []int) {
		wantText(t, what, h, roots, sealed(byWords(h, roots)))
	})
}

// TestP8_1_Length: four bytes a number, eight a float's bits, and the texts.
func TestP8_1_Length(t *testing.T) {
	each(func(what string, h api.Heap, roots []int) {
		want := 23 + 4*len(roots)
		for _, o := range h.Objs {
			want += []int{16, 16, 20}[o.Kind] + 4*len(o.Slots) + len(o.Text)
		}
		if s := Encode(h, roots); len(s) != want {
			t.Fatalf("%s with %v: %d bytes; want %d", what, roots, len(s), want)
		}
	})
}

func TestP8_1_NothingOfWhatMayNotBe(t *testing.T) {
	for _, wrong := range []map[string]api.Heap{mayNotBe(), lost()} {
		for name, h := range wrong {
			for _, roots := range append(someRoots(), []int{14}, make([]int, 65)) {
				wantText(t, name, h, roots, "")
			}
		}
	}
}

// TestP8_1_NothingOfNoValue has each of them alone, and at either end of others.
func TestP8_1_NothingOfNoValue(t *testing.T) {
	for _, v := range noValues() {
		for _, roots := range [][]int{{v}, {0, v}, {v, 0}, {1, v, 3}, append(make([]int, 63), v)} {
			wantText(t, "no value", few(), roots, "")
		}
	}
	for _, v := range []int{0, 2, 12, 510, -2} {
		wantText(t, "no objects", api.Heap{Cap: 256}, []int{1, v}, "")
	}
}

func TestP8_1_MostRoots(t *testing.T) {
	for n := range 65 {
		for _, v := range []int{0, 12, least, greatest} {
			roots := slices.Repeat([]int{v}, n)
			wantText(t, "at most 64", few(), roots, sealed(byWords(few(), roots)))
		}
	}
	for _, n := range []int{65, 66, 128, 256, 1 << 16, 1 << 20} {
		for _, v := range []int{0, 12, least, greatest, 14} {
			wantText(t, "too many", few(), slices.Repeat([]int{v}, n), "")
		}
	}
	wantText(t, "too many, no objects", api.Heap{Cap: 1}, slices.Repeat([]int{1}, 65), "")
}

// TestP8_1_EachValue has each ref and many SmallIntegers as roots, and in slots.
func TestP8_1_EachValue(t *testing.T) {
	h := api.Heap{Cap: 256, Objs: make([]api.Obj, 256)}
	var l []int
	for i := range h.Objs {
		l = append(l, 2*i)
	}
	for k := range 31 {
		l = append(l, 1<<k|1, -1<<k|1, 1<<k-1|1)
	}
	l = append(l, least, least+2, greatest, greatest-2, -1, 1, -255, -257)
	for _, v := range l {
		h.Objs[255].Slots = []int{v, 0, v}
		wantText(t, "in a slot, and as a root", h, []int{v, v}, sealed(byWords(h, []int{v, v})))
	}
}
