package tape_test

import (
	"anamnesis/api"
	"anamnesis/tape"
	"slices"
	"testing"
)

// TestP16_4_DrawnAgain: what Log has is drawn as it stands there, and draws nothing from Rest; what is drawn anew is Rest's, in order, and is drawn again.
func TestP16_4_DrawnAgain(t *testing.T) {
	s := spread(1)
	for range 300 {
		start := s.tape(s.below(12), s.below(12))
		all, x := tape.All(start), start
		for used := range len(all) + 5 {
			n, y := drawn(t, x, used)
			want := 0
			if used < len(all) {
				want = all[used]
			}
			if n != want {
				t.Fatalf("at %d of %v %d is drawn; want %d", used, start, n, want)
			}
			for again := range used + 1 {
				wantDraw(t, "again", y, again, answer{n: append(slices.Clone(all), 0, 0, 0, 0, 0)[again], log: y.Log, rest: y.Rest})
			}
			if used < len(all) && !slices.Equal(tape.All(y), all) {
				t.Fatalf("all is %v; it was %v", tape.All(y), all)
			}
			x = y
		}
		if want := append(all, 0, 0, 0, 0, 0); !slices.Equal(x.Log, want) || len(x.Rest) > 0 {
			t.Fatalf("the tape is %v; its Log is to be %v", x, want)
		}
	}
}

// TestP16_4_Diverged: what was drawn behind a divergence comes from what was left of Rest.
func TestP16_4_Diverged(t *testing.T) {
	s := spread(2)
	for range 1000 {
		x := s.tape(s.below(8), s.below(8))
		for range s.below(5) {
			_, x = drawn(t, x, len(x.Log))
		}
		used := s.below(len(x.Log) + 1)
		y, rest := diverged(t, x, used), x.Rest
		for i := range used {
			wantDraw(t, "kept", y, i, answer{n: x.Log[i], log: x.Log[:used], rest: rest})
		}
		for i, want := range append(slices.Clone(rest), 0, 0) {
			var n int
			if n, y = drawn(t, y, used+i); n != want {
				t.Fatalf("%d is drawn; want %d of %v", n, want, rest)
			}
		}
		wantDiverge(t, "at its end", y, len(y.Log), answer{log: y.Log})
		wantDiverge(t, "once more", diverged(t, y, used), used, answer{log: x.Log[:used]})
	}
}

// TestP16_4_StaysOneThatMayBe: what is told of a tape that may be, may be.
func TestP16_4_StaysOneThatMayBe(t *testing.T) {
	for what, x := range mayBe() {
		for used := range len(x.Log) + 1 {
			wantCheck(t, what, diverged(t, x, used), true)
			if used < most {
				_, y := drawn(t, x, used)
				wantCheck(t, what, y, true)
			}
		}
	}
}

// TestP16_ManyTapes holds all calls against the chapter's words, over tapes that are anyhow.
func TestP16_ManyTapes(t *testing.T) {
	s := spread(3)
	for range 3000 {
		x := s.tape(s.below(9), s.below(9))
		wantWords(t, "many tapes", x, s.below(len(x.Log)+3)-1)
	}
	for range 200 {
		log := s.below(1003)
		x := s.tape(log, max(0, 1000-log+s.below(5)-2))
		wantWords(t, "long ones", x, s.below(log+3)-1)
		wantWords(t, "long ones, at the end", x, log)
	}
}

// TestR1_AllArguments: no call panics, and each ends.
func TestR1_AllArguments(t *testing.T) {
	s := spread(4)
	anyInt := func() int {
		switch s.below(4) {
		case 0:
			return s.next()
		case 1:
			return noInputs()[s.below(len(noInputs()))]
		}
		return s.below(30) - 5
	}
	may := 0
	for range 5000 {
		x := s.tape(s.below(5), s.below(5))
		for _, l := range [][]int{x.Log, x.Rest} {
			if len(l) > 0 && s.below(3) == 0 {
				l[s.below(len(l))] = anyInt()
			}
		}
		if mayByWords(x) {
			may++
		}
		wantWords(t, "all arguments", x, anyInt())
	}
	if may < 2000 || may > 4500 {
		t.Errorf("%d of these may be", may)
	}
	long := make([]int, 1<<22)
	for _, x := range []api.Tape{{Log: long}, {Rest: long}, {Log: long, Rest: long}} {
		for _, used := range []int{0, 1 << 21, 1 << 22, signed, highest} {
			wantDraw(t, "long", x, used, answer{e: noTape})
			wantDiverge(t, "long", x, used, answer{e: noTape})
		}
	}
}

// TestR3_NothingIsKept: what was asked before does not count.
func TestR3_NothingIsKept(t *testing.T) {
	x := few()
	for k := range 60 {
		wantWords(t, "first", few(), k%6-1)
		wantWords(t, "between", api.Tape{Log: []int{1 << 30}}, k%3)
		wantWords(t, "another", sized(k, 3), k)
		// One tape that is written into from call to call.
		x.Log[k%3], x.Rest[k%4] = k, []int{-k, greatest, greatest + 1, least}[k%4]
		wantWords(t, "written into", x, 3)
	}
}

// spoil writes into all memory that a list has, beyond its end, too.
func spoil(l []int) {
	l = l[:cap(l)]
	for i := range l {
		l[i] = 999
	}
}

// calls are those that tell a tape, or a list, each as the lists that it tells.
func calls() map[string]func(x api.Tape, used int) [][]int {
	return map[string]func(x api.Tape, used int) [][]int{
		"Draw": func(x api.Tape, used int) [][]int {
			_, y, _ := tape.Draw(x, used)
			return [][]int{y.Log, y.Rest}
		},
		"Diverge": func(x api.Tape, used int) [][]int {
			y, _ := tape.Diverge(x, used)
			return [][]int{y.Log, y.Rest}
		},
		"All": func(x api.Tape, used int) [][]int { return [][]int{tape.All(x)} },
	}
}

func copies(lists [][]int) [][]int {
	var c [][]int
	for _, l := range lists {
		c = append(c, slices.Clone(l))
	}
	return c
}

func areEqual(a, b [][]int) bool { return slices.EqualFunc(a, b, slices.Equal[[]int]) }

// TestR4_NoSharedMemory: neither who writes into an answer changes an argument, nor the other way round; nor does one list of an answer change the other.
func TestR4_NoSharedMemory(t *testing.T) {
	for what, call := range calls() {
		for name, made := range mayBe() {
			for _, used := range []int{0, 1, len(made.Log) / 2, len(made.Log) - 1, len(made.Log)} {
				x := copyOf(made)
				for _, l := range call(x, used) {
					spoil(l)
				}
				wantUnchanged(t, what+", "+name+": the answer is spoilt", x, made)

				lists := call(x, used)
				want := copies(lists)
				spoil(x.Log)
				spoil(x.Rest)
				if !areEqual(lists, want) {
					t.Fatalf("%s, %s: the tape is spoilt, and the answer is %v; it was %v", what, name, lists, want)
				}

				for i := range lists {
					lists = call(copyOf(made), used)
					spoil(lists[i])
					if k := 1 - i; len(lists) > 1 && !slices.Equal(lists[k], want[k]) {
						t.Fatalf("%s, %s: one list is spoilt, and the other one is %v; it was %v", what, name, lists[k], want[k])
					}
				}
			}
		}
	}
}

// TestR4_OneMemory: the Log may end where the Rest begins, in one memory; or both may be the same list.
func TestR4_OneMemory(t *testing.T) {
	for log := range 7 {
		for rest := log; rest < 7; rest++ {
			for used := range log + 1 {
				all := []int{5, 6, 7, 8, 9, 10, 11, 12}
				x := api.Tape{Log: all[:log], Rest: all[rest:7]}
				wantWords(t, "one memory", x, used)
				y := api.Tape{Log: all[rest:7], Rest: all[:log]}
				wantWords(t, "one memory, turned round", y, min(used, 7-rest))
				same := api.Tape{Log: all[:log], Rest: all[:log]}
				wantWords(t, "one list", same, used)
				if !slices.Equal(all, []int{5, 6, 7, 8, 9, 10, 11, 12}) {
					t.Fatalf("the memory is %v", all)
				}
				_, z := drawn(t, same, used)
				spoil(z.Log)
				if rest := z.Rest; len(rest) > 0 && rest[0] == 999 {
					t.Fatalf("both lists of an answer are one")
				}
			}
		}
	}
}

// TestR4_RoomBehind: what lies behind a list in its memory is not written into.
func TestR4_RoomBehind(t *testing.T) {
	for what, call := range calls() {
		for _, rest := range [][]int{{7, 8}, nil} {
			log, left := []int{5, 6, 61, 62}, append(slices.Clone(rest), 91, 92)
			x := api.Tape{Log: log[:2], Rest: left[:len(rest)]}
			for used := range 3 {
				call(x, used)
			}
			if !slices.Equal(log, []int{5, 6, 61, 62}) || !slices.Equal(left, append(slices.Clone(rest), 91, 92)) {
				t.Fatalf("%s: behind the lists there are %v and %v", what, log[2:], left[len(rest):])
			}
		}
	}
}

// TestR5_EmptyIsNil: an empty list is as good as a nil one.
func TestR5_EmptyIsNil(t *testing.T) {
	lists := [][]int{nil, {}, make([]int, 0, 5)}
	for _, log := range lists {
		for _, rest := range lists {
			wantCheck(t, "both", api.Tape{Log: log, Rest: rest}, true)
			wantAll(t, "both", api.Tape{Log: log, Rest: rest}, nil)
			wantDraw(t, "both", api.Tape{Log: log, Rest: rest}, 0, answer{log: []int{0}})
			wantDraw(t, "both", api.Tape{Log: log, Rest: rest}, 1, answer{e: noTape})
			wantDiverge(t, "both", api.Tape{Log: log, Rest: rest}, 0, answer{})
			wantDiverge(t, "both", api.Tape{Log: log, Rest: rest}, 1, answer{e: noTape})
			wantDraw(t, "Log", api.Tape{Log: log, Rest: []int{7}}, 0, answer{n: 7, log: []int{7}})
			wantDraw(t, "Rest", api.Tape{Log: []int{5}, Rest: rest}, 1, answer{log: []int{5, 0}})
			wantDiverge(t, "Log", api.Tape{Log: log, Rest: []int{7}}, 0, answer{rest: []int{7}})
			wantDiverge(t, "Rest", api.Tape{Log: []int{5}, Rest: rest}, 0, answer{})
		}
	}
}
