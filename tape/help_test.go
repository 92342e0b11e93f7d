package tape_test

import (
	"anamnesis/api"
	"anamnesis/tape"
	"slices"
	"testing"
)

// The bounds stand here as numbers of their own, so that a test doesn't follow the code into a mistake.
const (
	greatest = 1073741823
	least    = -1073741824
	most     = 1000
	signed   = -1 << 63
	highest  = 1<<63 - 1
	noTape   = 160 // the error ErrTape
)

func few() api.Tape { return api.Tape{Log: []int{5, -6, greatest}, Rest: []int{7, 0, least, 9}} }

// row is n inputs, of which no two are the same, and none is 0.
func row(from, n int) []int {
	l := make([]int, n)
	for i := range l {
		l[i] = from + i
	}
	return l
}

// sized is a tape of so many inputs in its Log, and so many in its Rest.
func sized(log, rest int) api.Tape {
	return api.Tape{Log: row(1, log), Rest: row(5001, rest)}
}

// mayBe are tapes of which each may be: small ones, and those at the ends.
func mayBe() map[string]api.Tape {
	return map[string]api.Tape{
		"none":               {},
		"no Rest":            {Log: []int{5, 6}},
		"no Log":             {Rest: []int{7, 8}},
		"one and one":        {Log: []int{5}, Rest: []int{7}},
		"the ends":           {Log: []int{greatest, least}, Rest: []int{least, greatest}},
		"zeros":              {Log: []int{0, 0}, Rest: []int{0}},
		"few":                few(),
		"a full Log":         sized(most, 0),
		"a full Rest":        sized(0, most),
		"a full Log but one": sized(most-1, 0),
		"full, one of Rest":  sized(most-1, 1),
		"full, one of Log":   sized(1, most-1),
		"full, of both":      sized(600, 400),
		"almost full":        sized(600, 399),
	}
}

// noInputs are numbers that are no SmallIntegers.
func noInputs() []int {
	return []int{greatest + 1, greatest + 2, least - 1, least - 2, 2*greatest + 1, 2 * least, 1<<31 - 1, -1 << 31, 1 << 32, 1<<32 + 5, -1 << 32, 1 << 40, 1 << 62, -1 << 62, signed, signed + 1, signed + 5, highest, highest - 1}
}

// mayNotBe are tapes in which one thing is wrong, or more.
func mayNotBe() map[string]api.Tape {
	return map[string]api.Tape{
		"the Log too long":           sized(most+1, 0),
		"the Rest too long":          sized(0, most+1),
		"one too many, of Log":       sized(1, most),
		"one too many, of Rest":      sized(most, 1),
		"one too many, of both":      sized(600, 401),
		"both too long":              sized(most+1, most+1),
		"both full":                  sized(most, most),
		"very long":                  sized(70000, 70000),
		"too great, in Log":          {Log: []int{greatest + 1}},
		"too great, in Rest":         {Rest: []int{greatest + 1}},
		"too little, in Log":         {Log: []int{least - 1}},
		"too little, in Rest":        {Rest: []int{least - 1}},
		"the first one of Log":       {Log: []int{signed, 5, 6}, Rest: []int{7}},
		"the last one of Log":        {Log: []int{5, 6, highest}, Rest: []int{7}},
		"the first one of Rest":      {Log: []int{5, 6}, Rest: []int{highest, 7, 8}},
		"the last one of Rest":       {Log: []int{5, 6}, Rest: []int{7, 8, signed}},
		"too long, and too great":    {Log: append(row(1, most), greatest+1)},
		"the last one of a full one": {Rest: append(row(1, most-1), least-1)},
	}
}

// answer is what a call tells.
type answer struct {
	n         int
	log, rest []int
	e         api.Errno
}

func mayByWords(x api.Tape) bool {
	small := true
	for _, l := range [][]int{x.Log, x.Rest} {
		for _, n := range l {
			small = small && n >= least && n <= greatest
		}
	}
	return small && len(x.Log)+len(x.Rest) <= most
}

// drawByWords is Draw told a second time: of one row of inputs, of which the Log is what lies ahead of a place.
func drawByWords(x api.Tape, used int) answer {
	if !mayByWords(x) || used < 0 || used > len(x.Log) {
		return answer{e: noTape}
	}
	all, end := append(slices.Clone(x.Log), x.Rest...), len(x.Log)
	switch {
	case used < end:
		return answer{n: all[used], log: all[:end], rest: all[end:]}
	case end < len(all):
		return answer{n: all[end], log: all[:end+1], rest: all[end+1:]}
	case end < most:
		return answer{log: append(all, 0)}
	}
	return answer{e: noTape}
}

func divergeByWords(x api.Tape, used int) answer {
	if !mayByWords(x) || used < 0 || used > len(x.Log) {
		return answer{e: noTape}
	}
	return answer{log: x.Log[:used], rest: x.Rest}
}

func copyOf(x api.Tape) api.Tape {
	return api.Tape{Log: slices.Clone(x.Log), Rest: slices.Clone(x.Rest)}
}

func isSame(a, b api.Tape) bool { return slices.Equal(a.Log, b.Log) && slices.Equal(a.Rest, b.Rest) }

func wantUnchanged(t *testing.T, what string, x, was api.Tape) {
	t.Helper()
	if !isSame(x, was) {
		t.Fatalf("%s: the tape is %v; it was %v", what, x, was)
	}
}

func wantCheck(t *testing.T, what string, x api.Tape, may bool) {
	t.Helper()
	was, want := copyOf(x), api.Errno(noTape)
	if may {
		want = 0
	}
	if e := tape.Check(x); e != want {
		t.Fatalf("%s: Check of %d inputs and %d: error %d; want %d", what, len(x.Log), len(x.Rest), e, want)
	}
	wantUnchanged(t, what, x, was)
}

func wantAll(t *testing.T, what string, x api.Tape, want []int) {
	t.Helper()
	was := copyOf(x)
	if l := tape.All(x); !slices.Equal(l, want) {
		t.Fatalf("%s: All is %v; want %v", what, l, want)
	}
	wantUnchanged(t, what, x, was)
}

func wantDraw(t *testing.T, what string, x api.Tape, used int, want answer) {
	t.Helper()
	was := copyOf(x)
	n, y, e := tape.Draw(x, used)
	if n != want.n || e != want.e || !isSame(y, api.Tape{Log: want.log, Rest: want.rest}) {
		t.Fatalf("%s: Draw at %d of\n%v is %d,\n%v, error %d; want\n%v", what, used, x, n, y, e, want)
	}
	wantUnchanged(t, what, x, was)
}

func wantDiverge(t *testing.T, what string, x api.Tape, used int, want answer) {
	t.Helper()
	was := copyOf(x)
	y, e := tape.Diverge(x, used)
	if e != want.e || !isSame(y, api.Tape{Log: want.log, Rest: want.rest}) {
		t.Fatalf("%s: Diverge at %d of\n%v is\n%v, error %d; want\n%v", what, used, x, y, e, want)
	}
	wantUnchanged(t, what, x, was)
}

// wantWords holds all calls of x against the chapter's words.
func wantWords(t *testing.T, what string, x api.Tape, used int) {
	t.Helper()
	wantCheck(t, what, x, mayByWords(x))
	wantAll(t, what, x, append(slices.Clone(x.Log), x.Rest...))
	wantDraw(t, what, x, used, drawByWords(x, used))
	wantDiverge(t, what, x, used, divergeByWords(x, used))
}

// drawn is what Draw tells where there is no error.
func drawn(t *testing.T, x api.Tape, used int) (int, api.Tape) {
	t.Helper()
	n, y, e := tape.Draw(x, used)
	if e != api.OK {
		t.Fatalf("Draw at %d of %v: error %d", used, x, e)
	}
	return n, y
}

func diverged(t *testing.T, x api.Tape, used int) api.Tape {
	t.Helper()
	y, e := tape.Diverge(x, used)
	if e != api.OK {
		t.Fatalf("Diverge at %d of %v: error %d", used, x, e)
	}
	return y
}

// spread is a row of bits all over, the same in each run.
type spread uint64

func (s *spread) next() int {
	*s += 0x9e3779b97f4a7c15
	z := uint64(*s)
	z = (z ^ z>>30) * 0xbf58476d1ce4e5b9
	z = (z ^ z>>27) * 0x94d049bb133111eb
	return int(z ^ z>>31)
}

func (s *spread) below(n int) int { return int(uint64(s.next()) % uint64(n)) }

// input is a SmallInteger, near 0 mostly.
func (s *spread) input() int {
	if s.below(3) == 0 {
		return s.below(1<<31) + least
	}
	return s.below(21) - 10
}

func (s *spread) inputs(n int) []int {
	l := make([]int, n)
	for i := range l {
		l[i] = s.input()
	}
	return l
}

func (s *spread) tape(log, rest int) api.Tape {
	return api.Tape{Log: s.inputs(log), Rest: s.inputs(rest)}
}
