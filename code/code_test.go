package code

import (
	"anamnesis/api"
	"slices"
	"strings"
	"testing"
)

var end = api.Instr{Op: api.Return}

// filled is l, and as many instructions behind it that there are n, the last one a Return.
func filled(l []api.Instr, n int) []api.Instr {
	l = slices.Clone(l)
	for len(l) < n-1 {
		l = append(l, api.Instr{Op: api.Dup})
	}
	return append(l, end)
}

func TestP11_1_ByHand(t *testing.T) {
	for k, c := range []struct {
		i           api.Instr
		lits, temps int
		want        bool
	}{
		{api.Instr{Op: api.PushSelf}, 0, 0, true},
		{api.Instr{Op: api.PushLit, Arg: 2}, 3, 0, true},
		{api.Instr{Op: api.PushLit, Arg: 2}, 2, 9, false},
		{api.Instr{Op: api.PushLit}, 0, 9, false},
		{api.Instr{Op: api.PushLit}, -1, 9, false},
		{api.Instr{Op: api.PushLit}, signed, 9, false},
		{api.Instr{Op: api.PushLit, Arg: 255}, 256, 0, true},
		{api.Instr{Op: api.PushLit, Arg: 255}, 255, 300, false},
		{api.Instr{Op: api.PushLit, Arg: 255}, highest, 0, true},
		{api.Instr{Op: api.PushTemp, Arg: 2}, 0, 3, true},
		{api.Instr{Op: api.PushTemp, Arg: 2}, 9, 2, false},
		{api.Instr{Op: api.PushTemp}, 9, 0, false},
		{api.Instr{Op: api.PushTemp}, 9, -1, false},
		{api.Instr{Op: api.PushTemp, Arg: 200}, 0, 201, true},
		{api.Instr{Op: api.PopTemp, Arg: 7}, 0, 8, true},
		{api.Instr{Op: api.PopTemp, Arg: 7}, 8, 7, false},
		{api.Instr{Op: api.PopTemp}, 9, signed, false},
		{api.Instr{Op: api.PushField, Arg: 63}, 0, 0, true},
		{api.Instr{Op: api.PushField, Arg: 64}, 300, 300, false},
		{api.Instr{Op: api.PopField, Arg: 63}, 0, 0, true},
		{api.Instr{Op: api.PopField, Arg: 64}, 300, 300, false},
		{api.Instr{Op: api.PopField, Arg: 255}, 300, 300, false},
		{api.Instr{Op: api.Pop}, 0, 0, true},
		{api.Instr{Op: api.Dup}, 0, 0, true},
		{api.Instr{Op: api.Send, Arg: 0}, 1, 0, true},
		{api.Instr{Op: api.Send, Arg: 0}, 0, 9, false},
		{api.Instr{Op: api.Send, Arg: 4}, 1, 0, true},
		{api.Instr{Op: api.Send, Arg: 5}, 9, 9, false},
		{api.Instr{Op: api.Send, Arg: 7}, 9, 9, false},
		{api.Instr{Op: api.Send, Arg: 8}, 2, 0, true},
		{api.Instr{Op: api.Send, Arg: 8}, 1, 9, false},
		{api.Instr{Op: api.Send, Arg: 20}, 3, 0, true},
		{api.Instr{Op: api.Send, Arg: 20}, 2, 9, false},
		{api.Instr{Op: api.Send, Arg: 252}, 32, 0, true},
		{api.Instr{Op: api.Send, Arg: 252}, 31, 99, false},
		{api.Instr{Op: api.Send, Arg: 253}, 300, 300, false},
		{api.Instr{Op: api.Super, Arg: 12}, 2, 0, true},
		{api.Instr{Op: api.Super, Arg: 12}, 1, 9, false},
		{api.Instr{Op: api.Super, Arg: 13}, 9, 9, false},
		{api.Instr{Op: api.Super, Arg: 0}, -1, 9, false},
		{api.Instr{Op: api.Jump, Arg: 1}, 0, 0, true},
		{api.Instr{Op: api.Jump, Arg: 2}, 9, 9, false},
		{api.Instr{Op: api.JumpTrue, Arg: 0}, 0, 0, true},
		{api.Instr{Op: api.JumpTrue, Arg: 1}, 0, 0, true},
		{api.Instr{Op: api.JumpTrue, Arg: 2}, 9, 9, false},
		{api.Instr{Op: api.JumpFalse, Arg: 1}, 0, 0, true},
		{api.Instr{Op: api.JumpFalse, Arg: 2}, 9, 9, false},
		{api.Instr{Op: api.JumpFalse, Arg: 255}, 300, 300, false},
		{api.Instr{Op: api.Block, Arg: 3}, 4, 0, true},
		{api.Instr{Op: api.Block, Arg: 3}, 3, 9, false},
		{api.Instr{Op: api.Return}, 0, 0, true},
		{api.Instr{Op: api.Home}, 0, 0, true},
		{api.Instr{Op: api.PushOuter, Arg: 7}, 0, 0, true},
		{api.Instr{Op: api.PushOuter, Arg: 8}, 300, 300, false},
		{api.Instr{Op: api.PopOuter, Arg: 7}, 0, 0, true},
		{api.Instr{Op: api.PopOuter, Arg: 8}, 300, 300, false},
		{api.Instr{Op: api.PushThis}, 0, 0, true},
	} {
		l := []api.Instr{c.i, end}
		if got := Check(l, c.lits, c.temps) == api.OK; got != c.want {
			t.Errorf("number %d: Check(%v, %d, %d) is OK: %v", k, l, c.lits, c.temps, got)
		}
	}
}

// TestP11_1_Length: 1 to 32 instructions.
func TestP11_1_Length(t *testing.T) {
	wantCheck(t, nil, 9, 9, false)
	wantCheck(t, []api.Instr{}, 9, 9, false)
	for n := 1; n <= 70; n++ {
		wantCheck(t, filled(nil, n), 0, 0, n <= 32)
	}
	wantCheck(t, filled(nil, 1<<20), 300, 300, false)
}

// TestP11_1_Last: a Return, a Home, or a Jump; what stands ahead does not count.
func TestP11_1_Last(t *testing.T) {
	for _, i := range mayBe() {
		want := i.Op == api.Return || i.Op == api.Home || i.Op == api.Jump && i.Arg < 1
		wantCheck(t, []api.Instr{i}, 300, 300, want)
		want = i.Op == api.Return || i.Op == api.Home || i.Op == api.Jump && i.Arg < 3
		wantCheck(t, []api.Instr{end, {Op: api.Jump}, i}, 300, 300, want)
	}
}

// TestP11_1_MayNotBe: at whatever place one stands that may not be.
func TestP11_1_MayNotBe(t *testing.T) {
	for _, i := range mayNotBe() {
		wantCheck(t, []api.Instr{i}, 300, 300, false)
		wantCheck(t, []api.Instr{i, end}, 300, 300, false)
		wantCheck(t, []api.Instr{end, i}, 300, 300, false)
		for k := range 32 {
			l := filled(nil, 32)
			l[k] = i
			wantCheck(t, l, highest, highest, false)
		}
	}
}

// TestP11_1_Jumps: one leads to an instruction of as many as there are.
func TestP11_1_Jumps(t *testing.T) {
	for n := 2; n <= 32; n++ {
		for _, op := range []int{api.Jump, api.JumpTrue, api.JumpFalse} {
			for arg := range 256 {
				wantCheck(t, filled([]api.Instr{{Op: op, Arg: arg}}, n), 300, 300, arg < n)
			}
		}
	}
}

// TestP11_1_EachPlace: one that does not fit is found wherever it stands.
func TestP11_1_EachPlace(t *testing.T) {
	for _, i := range []api.Instr{{Op: 1, Arg: 3}, {Op: 2, Arg: 2}, {Op: 3, Arg: 64}, {Op: 4, Arg: 2}, {Op: 5, Arg: 64}, {Op: 8, Arg: 24}, {Op: 8, Arg: 5}, {Op: 9, Arg: 24}, {Op: 9, Arg: 5}, {Op: 10, Arg: 32}, {Op: 11, Arg: 32}, {Op: 12, Arg: 32}, {Op: 13, Arg: 3}, {Op: 16, Arg: 8}, {Op: 17, Arg: 8}} {
		for k := range 31 {
			l := filled(nil, 32)
			l[k] = i
			wantCheck(t, l, 3, 2, false)
			l[k].Arg = 0
			wantCheck(t, l, 3, 2, true)
		}
	}
}

func TestP11_1_ByWords(t *testing.T) {
	bounds := []int{signed, -1, 0, 1, 2, 7, 8, 9, 31, 32, 63, 64, 65, 254, 255, 256, 300, highest}
	for _, i := range mayBe() {
		for _, lits := range bounds {
			for _, temps := range bounds {
				l := []api.Instr{i, end}
				wantCheck(t, l, lits, temps, checkByWords(l, lits, temps))
			}
		}
	}
	s, good := spread(1), 0
	for range 20000 {
		l, lits, temps := s.low(s.below(36)), s.below(12), s.below(12)
		want := checkByWords(l, lits, temps)
		wantCheck(t, l, lits, temps, want)
		if want {
			good++
		}
	}
	if good < 500 {
		t.Errorf("only %d of the spread may be", good)
	}
}

func TestP11_2_Example(t *testing.T) {
	l := []api.Instr{{Op: 1}, {Op: 8, Arg: 10}, {Op: 14}}
	wantPack(t, l, "\x01\x00\x08\x0a\x0e\x00", api.OK)
	wantUnpack(t, "\x01\x00\x08\x0a\x0e\x00", l, api.OK)
	wantPrint(t, l, "lit 0\nsend 1 2\nreturn\n", api.OK)
	wantParse(t, "lit 0\nsend 1 2\nreturn\n", l, api.OK)
}

// TestP11_2_Each: each that may be has its two bytes; what Check alone asks for does not count.
func TestP11_2_Each(t *testing.T) {
	for _, i := range mayBe() {
		s := string([]byte{byte(i.Op), byte(i.Arg)})
		wantPack(t, []api.Instr{i}, s, api.OK)
		wantUnpack(t, s, []api.Instr{i}, api.OK)
	}
}

func TestP11_2_MayNotBe(t *testing.T) {
	for _, i := range mayNotBe() {
		wantPack(t, []api.Instr{i}, "", api.ErrCode)
		for _, k := range []int{0, 1, 15, 30, 31} {
			l := filled(nil, 32)
			l[k] = i
			wantPack(t, l, "", api.ErrCode)
		}
	}
}

// TestP11_2_AllBytes: all texts of two bytes, alone, and ahead of others and behind them.
func TestP11_2_AllBytes(t *testing.T) {
	for op := range 256 {
		for arg := range 256 {
			s := string([]byte{byte(op), byte(arg)})
			i := api.Instr{Op: op, Arg: arg}
			if !mayByWords(i) {
				wantUnpack(t, s, nil, api.ErrCode)
				wantUnpack(t, "\x0e\x00"+s, nil, api.ErrCode)
				wantUnpack(t, s+"\x0e\x00", nil, api.ErrCode)
				continue
			}
			wantUnpack(t, s, []api.Instr{i}, api.OK)
			wantUnpack(t, "\x01\xff"+s+"\x0e\x00", []api.Instr{{Op: 1, Arg: 255}, i, end}, api.OK)
		}
	}
}

// TestP11_2_Length: none to 32, so many bytes twice; one byte more is none's.
func TestP11_2_Length(t *testing.T) {
	wantPack(t, nil, "", api.OK)
	wantPack(t, []api.Instr{}, "", api.OK)
	for n := range 70 {
		for _, i := range []api.Instr{{}, {Op: 1, Arg: 255}} {
			l := slices.Repeat([]api.Instr{i}, n)
			s := strings.Repeat(string([]byte{byte(i.Op), byte(i.Arg)}), n)
			wantUnpack(t, s+"\x00", nil, api.ErrCode)
			wantUnpack(t, s+"\x01", nil, api.ErrCode)
			if n <= 32 {
				wantPack(t, l, s, api.OK)
				wantUnpack(t, s, l, api.OK)
			} else {
				wantPack(t, l, "", api.ErrCode)
				wantUnpack(t, s, nil, api.ErrCode)
			}
		}
	}
	wantPack(t, make([]api.Instr, 1<<20), "", api.ErrCode)
	wantUnpack(t, strings.Repeat("\x00", 1<<24), nil, api.ErrCode)
}

func TestP11_3_Words(t *testing.T) {
	for op, want := range []string{"self", "lit 0", "temp 0", "field 0", "settemp 0", "setfield 0", "pop", "dup", "send 0 0", "super 0 0", "jump 0", "iftrue 0", "iffalse 0", "block 0", "return", "home", "outer 0", "setouter 0", "this"} {
		wantPrint(t, []api.Instr{{Op: op}}, want+"\n", api.OK)
		wantParse(t, want+"\n", []api.Instr{{Op: op}}, api.OK)
	}
}

func TestP11_3_Each(t *testing.T) {
	for _, i := range mayBe() {
		wantPrint(t, []api.Instr{i}, lineByWords(i), api.OK)
		wantParse(t, lineByWords(i), []api.Instr{i}, api.OK)
		wantPrint(t, []api.Instr{i, end, i}, lineByWords(i)+"return\n"+lineByWords(i), api.OK)
		wantParse(t, "dup\n"+lineByWords(i)+"super 31 7\n", []api.Instr{{Op: 7}, i, {Op: 9, Arg: 255}}, api.OK)
	}
}

func TestP11_3_MayNotBe(t *testing.T) {
	for _, i := range mayNotBe() {
		wantPrint(t, []api.Instr{i}, "", api.ErrCode)
		for _, k := range []int{0, 1, 15, 30, 31} {
			l := filled(nil, 32)
			l[k] = i
			wantPrint(t, l, "", api.ErrCode)
		}
	}
}

// TestP11_3_Length: none to 32 lines, each ended.
func TestP11_3_Length(t *testing.T) {
	wantPrint(t, nil, "", api.OK)
	wantPrint(t, []api.Instr{}, "", api.OK)
	wantParse(t, "", nil, api.OK)
	for n := 1; n < 70; n++ {
		for _, i := range []api.Instr{{}, {Op: 5, Arg: 255}, {Op: 8, Arg: 255}} {
			l := slices.Repeat([]api.Instr{i}, n)
			s := strings.Repeat(lineByWords(i), n)
			wantParse(t, s[:len(s)-1], nil, api.ErrWord)
			wantParse(t, s+"\n", nil, api.ErrWord)
			wantParse(t, "\n"+s, nil, api.ErrWord)
			if n <= 32 {
				wantPrint(t, l, s, api.OK)
				wantParse(t, s, l, api.OK)
			} else {
				wantPrint(t, l, "", api.ErrCode)
				wantParse(t, s, nil, api.ErrWord)
			}
		}
	}
	wantPrint(t, make([]api.Instr, 1<<20), "", api.ErrCode)
}

// TestP11_3_NoLines: what is nearly a line is none's.
func TestP11_3_NoLines(t *testing.T) {
	for _, s := range []string{
		"\n", " \n", "\n\n", "self", "self\n\n", "self \n", " self\n", "self 0\n", "self\r\n", "selfs\n", "sel\n", "Self\n", "SELF\n", "self\x00\n", "self\nself", "self;self\n", "selfself\n",
		"lit\n", "lit \n", "lit  1\n", "lit\t1\n", "lit 1 \n", "lit 1 2\n", "lit 0 1\n", "lit 1, 2\n", "lit 256\n", "lit 1\n2\n", "1 lit\n", "lit1\n", "lit a\n", "lit\n1\n",
		"send\n", "send \n", "send 1\n", "send 1 \n", "send  1\n", "send 1  2\n", "send 1 2 \n", "send 1 2 3\n", "send 0 8\n", "send 1 8\n", "send 0 255\n", "send 32 0\n", "send 31 8\n", "send 256 0\n", "send 0 0 0\n", "send 12\n", "super 1\n", "super 0 8\n", "super 32 0\n", "super 255 255\n",
		"pop 0\n", "dup 0\n", "return 0\n", "home 0\n", "this 0\n", "pop \n", "jump\n", "jump 1 0\n", "block 0 0\n", "nop\n", "19\n", "0\n", "0 0\n", "\xff\n", "\u00e9 1\n", "\U0001f600\n",
	} {
		wantParse(t, s, nil, api.ErrWord)
		wantParse(t, "dup\n"+s, nil, api.ErrWord)
	}
}

// TestP11_3_Digits: a number is told in one way alone.
func TestP11_3_Digits(t *testing.T) {
	known := known()
	for _, i := range mayBe() {
		word, is := wordOf(i.Op)
		for _, n := range digits(i.Arg % 256) {
			s := word + " " + n
			if is == "send" {
				wantParse(t, word+" 0 "+n+"\n", nil, api.ErrWord)
				s = word + " " + n + " 0"
			}
			if _, ok := known[s]; ok {
				t.Fatalf("%q is a line", s)
			}
			wantParse(t, s+"\n", nil, api.ErrWord)
		}
	}
}

// TestP11_3_NoWrap: numbers that come to an Arg only modulo 2^64, or as a sum, are none's.
func TestP11_3_NoWrap(t *testing.T) {
	for _, s := range []string{"send 2305843009213693952 0\n", "send 2305843009213693953 2\n", "send 9223372036854775807 9\n", "send 18446744073709551615 15\n", "send -1 8\n", "send -1 15\n", "send 2 -8\n", "send 0 9\n", "send 0 10\n", "lit 18446744073709551617\n", "lit 9223372036854775808\n", "lit -9223372036854775808\n", "lit -255\n", "lit 4294967296\n"} {
		wantParse(t, s, nil, api.ErrWord)
	}
}

// TestP11_3_Changed: what one comes to by one byte is parsed as the words say.
func TestP11_3_Changed(t *testing.T) {
	known := known()
	some := []string{"", "lit 0\nsend 1 2\nreturn\n", "self\nself\n", "iftrue 25\npop\niffalse 255\n"}
	for op := range 19 {
		for _, arg := range []int{0, 1, 12, 100, 255} {
			if i := (api.Instr{Op: op, Arg: arg}); mayByWords(i) {
				some = append(some, lineByWords(i))
			}
		}
	}
	for _, s := range some {
		for _, other := range changed(s) {
			want, ok := parseByWords(known, other)
			if ok {
				wantParse(t, other, want, api.OK)
			} else {
				wantParse(t, other, nil, api.ErrWord)
			}
		}
	}
}
