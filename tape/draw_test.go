package tape_test

import (
	"anamnesis/api"
	"anamnesis/tape"
	"fmt"
	"testing"
)

func TestP16_2_Example(t *testing.T) {
	x := api.Tape{Log: []int{5}, Rest: []int{7}}
	wantDraw(t, "the example", x, 0, answer{n: 5, log: []int{5}, rest: []int{7}})
	wantDraw(t, "the example", x, 1, answer{n: 7, log: []int{5, 7}})
}

func TestP16_2_DrawByHand(t *testing.T) {
	log, rest := few().Log, few().Rest
	for _, x := range []struct {
		used int
		want answer
	}{
		{0, answer{n: 5, log: log, rest: rest}},
		{1, answer{n: -6, log: log, rest: rest}},
		{2, answer{n: greatest, log: log, rest: rest}},
		{3, answer{n: 7, log: []int{5, -6, greatest, 7}, rest: []int{0, least, 9}}},
		{4, answer{e: noTape}},
		{7, answer{e: noTape}},
		{-1, answer{e: noTape}},
	} {
		wantDraw(t, "few", few(), x.used, x.want)
	}
	wantDraw(t, "none", api.Tape{}, 0, answer{log: []int{0}})
	wantDraw(t, "no Rest", api.Tape{Log: []int{5, 6}}, 2, answer{log: []int{5, 6, 0}})
	wantDraw(t, "no Log", api.Tape{Rest: []int{least, 8}}, 0, answer{n: least, log: []int{least}, rest: []int{8}})
	wantDraw(t, "a zero that is drawn", api.Tape{Log: []int{5}, Rest: []int{0, 8}}, 1, answer{log: []int{5, 0}, rest: []int{8}})
	wantDraw(t, "a zero that was drawn", api.Tape{Log: []int{0}, Rest: []int{8}}, 0, answer{log: []int{0}, rest: []int{8}})
}

// TestP16_2_EachPlace draws at each place, and at those beyond the ends.
func TestP16_2_EachPlace(t *testing.T) {
	for what, x := range mayBe() {
		for used := -3; used <= len(x.Log)+len(x.Rest)+3; used++ {
			if used > 20 && used < len(x.Log)-20 && used%37 != 0 {
				continue
			}
			wantDraw(t, what, x, used, drawByWords(x, used))
		}
	}
}

// TestP16_2_Full: of a Log of 1000 nothing is drawn anew, but what it has is; one of 999 has room for one more.
func TestP16_2_Full(t *testing.T) {
	full := sized(most, 0)
	wantDraw(t, "full", full, 999, answer{n: 1000, log: full.Log})
	wantDraw(t, "full", full, 0, answer{n: 1, log: full.Log})
	wantDraw(t, "full", full, 1000, answer{e: noTape})
	wantDraw(t, "full", full, 1001, answer{e: noTape})
	last := sized(most-1, 0)
	wantDraw(t, "one less", last, 999, answer{log: append(row(1, 999), 0)})
	wantDraw(t, "one less", last, 1000, answer{e: noTape})
	last = sized(most-1, 1)
	wantDraw(t, "the last one", last, 999, answer{n: 5001, log: append(row(1, 999), 5001)})
	last = sized(998, 0)
	wantDraw(t, "two less", last, 998, answer{log: append(row(1, 998), 0)})
	all := sized(0, most)
	wantDraw(t, "all of Rest", all, 0, answer{n: 5001, log: []int{5001}, rest: row(5002, 999)})
}

// TestP16_2_FullOfZeros: what is drawn of nothing comes to an end where the Log is full.
func TestP16_2_FullOfZeros(t *testing.T) {
	x := api.Tape{Log: []int{5}, Rest: []int{6, 7}}
	for used := range most {
		n, y := drawn(t, x, used)
		if want := []int{5, 6, 7, 0}[min(used, 3)]; n != want || len(y.Log) != used+1 {
			t.Fatalf("at %d %d is drawn, the Log has %d then; want %d", used, n, len(y.Log), want)
		}
		x = y
	}
	wantDraw(t, "behind all", x, most, answer{e: noTape})
	wantCheck(t, "behind all", x, true)
}

func TestP16_2_UsedFarOff(t *testing.T) {
	for what, x := range mayBe() {
		for _, used := range []int{signed, signed + 1, signed + 1000, -1 << 32, -1000, -2, -1, 1001, 1002, 2000, 1 << 20, 1 << 32, 1<<32 + 1, 1 << 62, highest - 1, highest} {
			wantDraw(t, fmt.Sprint(what, ", far off"), x, used, answer{e: noTape})
		}
	}
}

// TestP16_2_WhatMayNotBe: whatever the place is.
func TestP16_2_WhatMayNotBe(t *testing.T) {
	for what, x := range mayNotBe() {
		for _, used := range []int{0, 1, 2, 3, 600, 999, 1000, 1001, len(x.Log) - 1, len(x.Log), len(x.Log) + 1, -1} {
			wantDraw(t, what, x, used, answer{e: noTape})
		}
	}
	if _, _, e := tape.Draw(api.Tape{}, 1); e != 160 {
		t.Errorf("the error is %d", e)
	}
}
