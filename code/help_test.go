package code

import (
	"anamnesis/api"
	"fmt"
	"slices"
	"strconv"
	"strings"
	"testing"
)

// The bounds stand here as numbers of their own, so that a test doesn't follow the code into a mistake.
const (
	signed  = -1 << 63
	highest = 1<<63 - 1
)

// told is what the chapter and api say of each Op, from 0 on: its word, and what its Arg is.
var told = strings.Fields("self:0 lit:literal temp:temp field:field settemp:temp setfield:field pop:0 dup:0 send:send super:send jump:place iftrue:place iffalse:place block:literal return:0 home:0 outer:home setouter:home this:0")

// wordOf is the word of op, and what its Arg is.
func wordOf(op int) (string, string) {
	word, is, _ := strings.Cut(told[op], ":")
	return word, is
}

func mayByWords(i api.Instr) bool {
	if i.Op < 0 || i.Op > 18 || i.Arg < 0 || i.Arg > 255 {
		return false
	}
	_, is := wordOf(i.Op)
	return is != "0" || i.Arg == 0
}

func allMayByWords(l []api.Instr) bool {
	for _, i := range l {
		if !mayByWords(i) {
			return false
		}
	}
	return len(l) <= 32
}

// checkByWords is Check told a second time.
func checkByWords(l []api.Instr, lits, temps int) bool {
	if len(l) == 0 || !allMayByWords(l) {
		return false
	}
	if word, _ := wordOf(l[len(l)-1].Op); !slices.Contains([]string{"return", "home", "jump"}, word) {
		return false
	}
	for _, i := range l {
		_, is := wordOf(i.Op)
		bound := map[string]int{"0": 1, "literal": lits, "send": lits, "temp": temps, "home": 8, "field": 64, "place": len(l)}[is]
		n := i.Arg
		if is == "send" {
			n = i.Arg / 8
			if i.Arg-8*n > 4 {
				return false
			}
		}
		if n >= bound {
			return false
		}
	}
	return true
}

// lineByWords is the line of i, that may be, with its byte 10.
func lineByWords(i api.Instr) string {
	word, is := wordOf(i.Op)
	switch is {
	case "0":
		return word + "\n"
	case "send":
		return fmt.Sprintf("%s %d %d\n", word, i.Arg>>3, i.Arg&7)
	}
	return fmt.Sprintf("%s %d\n", word, i.Arg)
}

// mayBe are all instructions that may be.
func mayBe() []api.Instr {
	var l []api.Instr
	for op := range 19 {
		for arg := range 256 {
			if i := (api.Instr{Op: op, Arg: arg}); mayByWords(i) {
				l = append(l, i)
			}
		}
	}
	return l
}

// mayNotBe are instructions that may not be, nor what their numbers are modulo 256.
func mayNotBe() []api.Instr {
	l := []api.Instr{{Op: signed, Arg: signed}, {Op: highest, Arg: highest}, {Op: -1, Arg: -1}, {Op: 19}, {Op: 19, Arg: 1}}
	for _, op := range []int{-1, -2, -18, -19, 19, 20, 255, 256, 257, 264, 270, -256, -242, 1 << 32, 1<<32 + 14, signed, signed + 14, highest} {
		l = append(l, api.Instr{Op: op}, api.Instr{Op: op, Arg: 1})
	}
	for op := range 19 {
		for _, arg := range []int{-1, -2, -255, -256, 256, 257, 512, 1 << 32, 1<<32 + 1, signed, signed + 1, highest} {
			l = append(l, api.Instr{Op: op, Arg: arg})
		}
		if _, is := wordOf(op); is == "0" {
			l = append(l, api.Instr{Op: op, Arg: 1}, api.Instr{Op: op, Arg: 8}, api.Instr{Op: op, Arg: 255})
		}
	}
	return l
}

// known is each line that there is, without its byte 10, and whose it is.
func known() map[string]api.Instr {
	m := map[string]api.Instr{}
	for _, i := range mayBe() {
		m[strings.TrimSuffix(lineByWords(i), "\n")] = i
	}
	return m
}

// parseByWords is Parse told a second time, by all lines that there are.
func parseByWords(known map[string]api.Instr, s string) ([]api.Instr, bool) {
	parts := strings.Split(s, "\n")
	if parts[len(parts)-1] != "" || len(parts) > 33 {
		return nil, false
	}
	var l []api.Instr
	for _, part := range parts[:len(parts)-1] {
		i, ok := known[part]
		if !ok {
			return nil, false
		}
		l = append(l, i)
	}
	return l, true
}

func wantCheck(t *testing.T, l []api.Instr, lits, temps int, want bool) {
	t.Helper()
	e := api.ErrCode
	if want {
		e = api.OK
	}
	if got := Check(l, lits, temps); got != e {
		t.Fatalf("Check(%v, %d, %d) = %d; want %d", l, lits, temps, got, e)
	}
}

func wantPack(t *testing.T, l []api.Instr, want string, e api.Errno) {
	t.Helper()
	if s, f := Pack(l); s != want || f != e {
		t.Fatalf("Pack(%v) = %q, %d; want %q, %d", l, s, f, want, e)
	}
}

func wantUnpack(t *testing.T, s string, want []api.Instr, e api.Errno) {
	t.Helper()
	if l, f := Unpack(s); !slices.Equal(l, want) || f != e {
		t.Fatalf("Unpack(%q) = %v, %d; want %v, %d", s, l, f, want, e)
	}
}

func wantPrint(t *testing.T, l []api.Instr, want string, e api.Errno) {
	t.Helper()
	if s, f := Print(l); s != want || f != e {
		t.Fatalf("Print(%v) = %q, %d; want %q, %d", l, s, f, want, e)
	}
}

func wantParse(t *testing.T, s string, want []api.Instr, e api.Errno) {
	t.Helper()
	if l, f := Parse(s); !slices.Equal(l, want) || f != e {
		t.Fatalf("Parse(%q) = %v, %d; want %v, %d", s, l, f, want, e)
	}
}

// spread is a row of bits all over, the same in each run.
type spread uint64

func (s *spread) next() int {
	*s += 0x9e3779b97f4a7c15
	z := uint64(*s)
	z = (z ^ z>>30) * 0xbf58476d1ce4e5b9
	z = (z ^ z>>27) * 0x94d049bb133111eb
	return int(z ^ z>>31)
}

func (s *spread) below(n int) int { return int(uint64(s.next()) % uint64(n)) }

// list is n instructions that may be.
func (s *spread) list(n int) []api.Instr {
	all := mayBe()
	l := make([]api.Instr, n)
	for k := range l {
		l[k] = all[s.below(len(all))]
	}
	return l
}

// low is n instructions that may be, mostly with low Args: so that many pass Check.
func (s *spread) low(n int) []api.Instr {
	l := make([]api.Instr, n)
	for k := range l {
		i := api.Instr{Op: s.below(19), Arg: s.below(10)}
		if _, is := wordOf(i.Op); is == "0" {
			i.Arg = 0
		}
		l[k] = i
	}
	if n > 0 && s.below(4) > 0 {
		l[n-1] = []api.Instr{{Op: 14}, {Op: 15}, {Op: 10, Arg: s.below(n)}}[s.below(3)]
	}
	return l
}

// text is n bytes, mostly such as stand in lines.
func (s *spread) text(n int) string {
	const often = " \n\n0123456789selfndupopturhm"
	b := make([]byte, n)
	for k := range b {
		b[k] = byte(s.next())
		if s.below(20) > 0 {
			b[k] = often[s.below(len(often))]
		}
	}
	return string(b)
}

// changed are all texts that one comes to from s by one byte: taken out, put in, or another one.
func changed(s string) []string {
	const bytes = " \n\t\r\x00+-_019aefilnopst\xff"
	var l []string
	for k := range len(s) + 1 {
		for _, b := range strings.Split(bytes, "") {
			l = append(l, s[:k]+b+s[k:])
			if k < len(s) {
				l = append(l, s[:k]+b+s[k+1:])
			}
		}
		if k < len(s) {
			l = append(l, s[:k]+s[k+1:], s[:k], s[k:])
		}
	}
	return l
}

// digits are ways to tell a number that no line has, of one that is 0 to 255.
func digits(n int) []string {
	s := strconv.Itoa(n)
	return []string{"", "+" + s, "-" + s, "0" + s, "00" + s, s + ".0", s + "e0", "0x" + strconv.FormatInt(int64(n), 16), "0b" + strconv.FormatInt(int64(n), 2), "0o" + strconv.FormatInt(int64(n), 8), s + "_", "_" + s, "1_" + s, strconv.Itoa(n + 256), strconv.Itoa(n + 1<<32), strconv.FormatUint(uint64(n)+1<<63, 10), "18446744073709551616", "18446744073709551616" + s, "\u0661", "\uff11"}
}
