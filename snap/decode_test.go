package snap

import (
	"anamnesis/api"
	"slices"
	"strings"
	"testing"
)

func TestP8_2_ByHand(t *testing.T) {
	wantRead(t, "few", sealed(fewText), few(), []int{12, -1, 7})
	wantRead(t, "no objects", "AN1\x01\x00\x00\x00\x00\x00\x00\x00\x00\x00\x00\x00\x00\x00\x00\x00\xa3\x36\x7e\xf3", api.Heap{Cap: 1}, nil)
	wantRead(t, "one", sealed("AN1\x03\x00\x00\x00\x00\x00\x00\x00\x01"+strings.Repeat("\x00", 23)), api.Heap{Cap: 3, Objs: []api.Obj{{}}}, nil)
}

func TestP8_2_ByWords(t *testing.T) {
	each(func(what string, h api.Heap, roots []int) {
		wantRead(t, what, sealed(byWords(h, roots)), h, roots)
	})
}

// TestP8_2_Cut: fewer bytes than 23, whatever they are, also with a right sum.
func TestP8_2_Cut(t *testing.T) {
	whole := Encode(few(), []int{12, -1, 7})
	none := Encode(api.Heap{Cap: 1}, nil)
	for n := range 23 {
		for _, s := range []string{whole, none, strings.Repeat("\x00", 23), strings.Repeat("\xff", 23), whole[len(whole)-23:]} {
			wantError(t, "cut", s[:n], api.ErrCut)
		}
		if n >= 4 {
			wantError(t, "cut, with its sum", sealed(whole[:n-4]), api.ErrCut)
			wantError(t, "cut, with its sum", sealed(none[:n-4]), api.ErrCut)
		}
	}
	if len(none) != 23 {
		t.Errorf("the least text has %d bytes", len(none))
	}
	wantRead(t, "the least text", none, api.Heap{Cap: 1}, nil)
}

// TestP8_2_Sum: 23 bytes or more, with any other sum, of a right form or of none.
func TestP8_2_Sum(t *testing.T) {
	for _, s := range []string{Encode(few(), []int{12, -1, 7}), Encode(api.Heap{Cap: 1}, nil)} {
		for n := 23; n < len(s); n++ {
			wantError(t, "cut", s[:n], api.ErrSum)
		}
		for i := range s {
			for bit := range 8 {
				wantError(t, "another bit", s[:i]+string([]byte{s[i] ^ 1<<bit})+s[i+1:], api.ErrSum)
			}
		}
		end := len(s) - 4
		wantError(t, "the sum turned round", s[:end]+string([]byte{s[end+3], s[end+2], s[end+1], s[end]}), api.ErrSum)
		wantError(t, "no sum", s[:end]+"\x00\x00\x00\x00", api.ErrSum)
		wantError(t, "a byte behind", s+"\x00", api.ErrSum)
		wantError(t, "a byte ahead", "\x00"+s, api.ErrSum)
	}
	for _, n := range []int{23, 24, 39, 1000} {
		wantError(t, "nothing but 1", strings.Repeat("\x01", n), api.ErrSum)
		wantError(t, "right marks alone", "AN1"+strings.Repeat("\x00", n-3), api.ErrSum)
	}
}

// TestP8_2_FormOfCutTexts: what is cut off has a right sum, but isn't all there; what goes on has too much.
func TestP8_2_FormOfCutTexts(t *testing.T) {
	full := byWords(turned(func(h *api.Heap) { h.Objs[0].Slots, h.Objs[4].Text = make([]int, 64), strings.Repeat("x", 64) }), make([]int, 64))
	for _, s := range []string{fewText, full} {
		for n := 19; n < len(s); n++ {
			wantError(t, "cut", sealed(s[:n]), api.ErrForm)
		}
		for _, more := range []string{"\x00", "\x00\x00\x00\x00", "AN1", s, strings.Repeat("\x00", 100)} {
			wantError(t, "and more", sealed(s+more), api.ErrForm)
			wantError(t, "and more ahead", sealed(more+s), api.ErrForm)
		}
		wantError(t, "sealed twice", sealed(sealed(s)), api.ErrForm)
	}
	wantError(t, "the least text, a byte less ahead", sealed("AN1"+four(1)+four(0)+four(0)+"\x00\x00\x00"+"\x01"), api.ErrForm)
	wantError(t, "nothing but 0", sealed(strings.Repeat("\x00", 19)), api.ErrForm)
}

func TestP8_2_FormOfMarks(t *testing.T) {
	for _, mark := range []string{"an1", "AN2", "AN0", "BN1", "AM1", "N1A", "AN\x01", "\x00\x00\x00", "   "} {
		wantError(t, mark, sealed(mark+fewText[3:]), api.ErrForm)
	}
	wantError(t, "no mark", sealed(fewText[3:]), api.ErrForm)
	wantError(t, "marked twice", sealed("AN1"+fewText), api.ErrForm)
}

// TestP8_2_FormOfWhatMayNotBe has heaps that may not be, and roots that are no values, written all the same.
func TestP8_2_FormOfWhatMayNotBe(t *testing.T) {
	for name, h := range mayNotBe() {
		wantError(t, name, sealed(byWords(h, nil)), api.ErrForm)
		wantError(t, name, sealed(byWords(h, []int{12, 1})), api.ErrForm)
	}
	for _, v := range []int{14, 16, 512, 2097150, 2097152, -2, -4, greatest + 1, greatest - 1, least - 1, least + 1} {
		for _, roots := range [][]int{{v}, {0, v}, {v, 0}, {1, v, 3}} {
			wantError(t, "a root of none", sealed(byWords(few(), roots)), api.ErrForm)
		}
	}
	wantError(t, "65 roots", sealed(byWords(few(), make([]int, 65))), api.ErrForm)
	wantError(t, "65 roots, no objects", sealed(byWords(api.Heap{Cap: 1}, slices.Repeat([]int{1}, 65))), api.ErrForm)
	wantError(t, "very many roots", sealed(byWords(few(), make([]int, 4096))), api.ErrForm)
}

// numbers are those of few's text that stand in four bytes, by where they stand.
var numbers = map[string]int{
	"Cap": 3, "Last": 7, "objects": 11,
	"a class": 15, "a kind": 19, "a hash": 23, "no slots": 27,
	"a second class": 31, "a second kind": 35, "slots": 43, "a slot": 51, "the last slot": 59,
	"a text's kind": 67, "bytes": 75, "a float's kind": 87, "no bytes": 115,
	"a long hash": 127, "an int": 135, "the last one's class": 147, "roots": 167, "a root": 171, "the last root": 179,
}

// TestP8_2_FormOfNumbers puts numbers, from end to end, in the place of each of few's: what comes is a heap just where the chapter's words tell one.
func TestP8_2_FormOfNumbers(t *testing.T) {
	l := []int{mostOfHash - 1, mostOfHash, mostOfHash + 1, greatest - 1, greatest, least - 1, least, -1, -2, -3, -4, 2097150, 2097152, 65536, 1 << 24}
	for n := range 300 {
		l = append(l, n)
	}
	for name, at := range numbers {
		are := 0
		for _, n := range l {
			if wantByWords(t, name, fewText[:at]+four(n)+fewText[at+4:]) {
				are++
			}
		}
		if are == 0 || are == len(l) {
			t.Errorf("%s: %d of %d are right", name, are, len(l))
		}
	}
}

// TestP8_2_FormOfBytes puts each byte in the place of each of few's.
func TestP8_2_FormOfBytes(t *testing.T) {
	for i := range len(fewText) {
		for b := range 256 {
			wantByWords(t, "another byte", fewText[:i]+string([]byte{byte(b)})+fewText[i+1:])
		}
	}
}

// TestP8_2_FormOfTurnedTexts takes bytes away, doubles some, and puts some in other ones' places.
func TestP8_2_FormOfTurnedTexts(t *testing.T) {
	s := spread(3)
	for range 20000 {
		i, n := s.below(len(fewText)), s.below(9)
		k := min(i+n, len(fewText))
		wantByWords(t, "some less", padded(fewText[:i]+fewText[k:]))
		wantByWords(t, "some twice", fewText[:k]+fewText[i:])
		wantByWords(t, "others", fewText[:i]+s.text(k-i)+fewText[k:])
		wantByWords(t, "others behind", padded(fewText[:i]+s.text(n)))
	}
}

// padded is s, so long that it isn't cut.
func padded(s string) string { return s + strings.Repeat("\x00", max(0, 19-len(s))) }

// TestP8_2_FormOfHugeCounts: more is told than any text has, or than one may have: that ends, and takes no room.
func TestP8_2_FormOfHugeCounts(t *testing.T) {
	head := "AN1" + four(256) + four(0)
	for _, n := range []int{1, 255, 256, 257, 1 << 20, greatest, least, -1, -1 << 31} {
		wantError(t, "objects", sealed(head+four(n)+four(0)), api.ErrForm)
		wantError(t, "slots", sealed(head+four(1)+four(0)+four(0)+four(0)+four(n)+four(0)), api.ErrForm)
		wantError(t, "bytes", sealed(head+four(1)+four(0)+four(1)+four(0)+four(n)+four(0)), api.ErrForm)
		wantError(t, "roots", sealed(head+four(0)+four(n)), api.ErrForm)
	}
	long := strings.Repeat("\x00", 1<<22)
	wantError(t, "a long text", sealed(long), api.ErrForm)
	wantError(t, "a long text behind", sealed(head+four(1<<18)+long), api.ErrForm)
	wantError(t, "a long text in slots", sealed(head+four(1)+four(0)+four(0)+four(0)+four(1<<20)+long+four(0)), api.ErrForm)
	wantError(t, "a long text in bytes", sealed(head+four(1)+four(0)+four(1)+four(0)+four(1<<22)+long+four(0)), api.ErrForm)
	wantError(t, "a long text in roots", sealed(head+four(0)+four(1<<20)+long), api.ErrForm)
}

// TestP8_2_FormOfFloats: of all NaN there is one text.
func TestP8_2_FormOfFloats(t *testing.T) {
	of := func(n int) string {
		return "AN1" + four(1) + four(0) + four(1) + four(0) + four(2) + four(0) + eight(n) + four(0)
	}
	for _, n := range bits() {
		wantRead(t, "bits", sealed(of(n)), api.Heap{Cap: 1, Objs: []api.Obj{{Kind: 2, Bits: n}}}, nil)
	}
	for _, n := range []int{infinite + 1, theNaN - 1, theNaN + 1, highest, -1, signed | infinite + 1, signed | theNaN} {
		wantError(t, "another NaN", sealed(of(n)), api.ErrForm)
	}
}
