package code

import (
	"anamnesis/api"
	"slices"
	"strings"
	"testing"
)

// TestP11_4_ComesBack: what is packed, or printed, comes back.
func TestP11_4_ComesBack(t *testing.T) {
	s := spread(2)
	for range 100 {
		for n := range 33 {
			l := s.list(n)
			packed, e := Pack(l)
			if e != api.OK || len(packed) != 2*n {
				t.Fatalf("Pack(%v) = %q, %d", l, packed, e)
			}
			wantUnpack(t, packed, l, api.OK)
			lines := ""
			for _, i := range l {
				lines += lineByWords(i)
			}
			wantPrint(t, l, lines, api.OK)
			wantParse(t, lines, l, api.OK)
		}
	}
}

// TestP11_4_WrittenAgain: what is unpacked, or parsed, is written as it was: so there is one text alone.
func TestP11_4_WrittenAgain(t *testing.T) {
	known := known()
	s, good := spread(3), 0
	for range 200000 {
		text := s.text(s.below(24))
		want, ok := parseByWords(known, text)
		if !ok {
			wantParse(t, text, nil, api.ErrWord)
			continue
		}
		wantParse(t, text, want, api.OK)
		wantPrint(t, want, text, api.OK)
		good++
	}
	if good == 0 {
		t.Error("none of the spread is parsed")
	}
	for range 200000 {
		b := make([]byte, s.below(8))
		for k := range b {
			b[k] = byte(s.below(22 * (1 + 10*(k%2))))
		}
		if l, e := Unpack(string(b)); e == api.OK {
			wantPack(t, l, string(b), api.OK)
		} else if e != api.ErrCode || len(l) != 0 {
			t.Fatalf("Unpack(%q) = %v, %d", b, l, e)
		}
	}
}

// TestP11_4_Checked: what Check lets through is packed and printed.
func TestP11_4_Checked(t *testing.T) {
	s := spread(4)
	for range 5000 {
		l := s.low(1 + s.below(34))
		if Check(l, 9, 9) != api.OK {
			continue
		}
		if _, e := Pack(l); e != api.OK {
			t.Fatalf("Pack(%v): %d", l, e)
		}
		if _, e := Print(l); e != api.OK {
			t.Fatalf("Print(%v): %d", l, e)
		}
	}
}

// TestR1_AllArguments: each call ends, whatever it is given.
func TestR1_AllArguments(t *testing.T) {
	s := spread(5)
	ends := []int{signed, signed + 1, highest, highest - 1, -1, 0, 1, 18, 19, 255, 256}
	anyInt := func() int {
		if s.below(2) == 0 {
			return s.next()
		}
		return ends[s.below(len(ends))]
	}
	for range 20000 {
		l := make([]api.Instr, s.below(40))
		for k := range l {
			l[k] = api.Instr{Op: anyInt(), Arg: anyInt()}
		}
		lits, temps := anyInt(), anyInt()
		wantCheck(t, l, lits, temps, checkByWords(l, lits, temps))
		_, e := Pack(l)
		_, f := Print(l)
		if (e == api.OK) != allMayByWords(l) || f != e {
			t.Fatalf("%v: Pack: %d, Print: %d", l, e, f)
		}
	}
}

// TestR1_LongTexts: long texts are no lines, of few words or of many.
func TestR1_LongTexts(t *testing.T) {
	const many = 1 << 20
	for _, part := range []string{"a", "\x00", "\xff", "0", "9", " ", "\n", "self\n", "self ", "send 1 2", " 1", "lit 1\n\n"} {
		long := strings.Repeat(part, many)
		for _, ahead := range []string{"", "self", "self ", "lit ", "lit 0", "send ", "send 1 ", "dup\n", "dup\nsend 0 0"} {
			wantLong(t, ahead+long)
			wantLong(t, ahead+long+"\n")
		}
		if l, e := Unpack(long); e != api.ErrCode || len(l) != 0 {
			t.Fatalf("Unpack of many %q: %d, %d of them", part, e, len(l))
		}
	}
}

// wantLong is wantParse of a text that is too long to be told.
func wantLong(t *testing.T, s string) {
	t.Helper()
	if l, e := Parse(s); e != api.ErrWord || len(l) != 0 {
		t.Fatalf("Parse of %d bytes that begin %q: %d, %d of them", len(s), s[:30], e, len(l))
	}
}

// TestR3_NothingIsKept asks for the same in between, forth and back.
func TestR3_NothingIsKept(t *testing.T) {
	s := spread(6)
	var lists [][]api.Instr
	var packed, printed []string
	for n := range 33 {
		l := s.list(n)
		p, _ := Pack(l)
		q, _ := Print(l)
		lists, packed, printed = append(lists, l), append(packed, p), append(printed, q)
	}
	Pack(make([]api.Instr, 33))
	Unpack("\xff")
	Parse("dup\nnop\n")
	for n := 32; n >= 0; n-- {
		wantPack(t, lists[n], packed[n], api.OK)
		wantPrint(t, lists[n], printed[n], api.OK)
		wantUnpack(t, packed[n], lists[n], api.OK)
		wantParse(t, printed[n], lists[n], api.OK)
	}
}

// TestR4_ListStays: no call writes into the list that it is given.
func TestR4_ListStays(t *testing.T) {
	s := spread(7)
	for n := range 40 {
		for _, l := range [][]api.Instr{s.list(n), s.low(n), append(s.list(n), mayNotBe()[n])} {
			before := slices.Clone(l)
			Check(l, 9, 9)
			Pack(l)
			Print(l)
			if !slices.Equal(l, before) {
				t.Fatalf("%v has changed to %v", before, l)
			}
		}
	}
}

// TestR4_Apart: what is answered twice is written into once.
func TestR4_Apart(t *testing.T) {
	for what, read := range map[string]func() ([]api.Instr, api.Errno){
		"unpacked": func() ([]api.Instr, api.Errno) { return Unpack("\x01\x05\x0e\x00") },
		"parsed":   func() ([]api.Instr, api.Errno) { return Parse("lit 5\nreturn\n") },
	} {
		a, _ := read()
		b, _ := read()
		a[0], a[1] = api.Instr{Op: 99, Arg: 99}, api.Instr{}
		_ = append(a[:1], end, end)
		if want := []api.Instr{{Op: 1, Arg: 5}, end}; !slices.Equal(b, want) {
			t.Errorf("%s: %v; want %v", what, b, want)
		}
	}
}

// TestR5_EmptyAndNil: an empty list and a nil one are the same.
func TestR5_EmptyAndNil(t *testing.T) {
	for _, l := range [][]api.Instr{nil, {}, make([]api.Instr, 0, 5)} {
		wantCheck(t, l, 9, 9, false)
		wantPack(t, l, "", api.OK)
		wantPrint(t, l, "", api.OK)
	}
	wantUnpack(t, "", nil, api.OK)
	wantParse(t, "", nil, api.OK)
}
