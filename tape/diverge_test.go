package tape_test

import (
	"anamnesis/api"
	"anamnesis/tape"
	"fmt"
	"testing"
)

func TestP16_3_DivergeByHand(t *testing.T) {
	rest := few().Rest
	for _, x := range []struct {
		used int
		want answer
	}{
		{0, answer{rest: rest}},
		{1, answer{log: []int{5}, rest: rest}},
		{2, answer{log: []int{5, -6}, rest: rest}},
		{3, answer{log: []int{5, -6, greatest}, rest: rest}},
		{4, answer{e: noTape}},
		{7, answer{e: noTape}},
		{-1, answer{e: noTape}},
	} {
		wantDiverge(t, "few", few(), x.used, x.want)
	}
	wantDiverge(t, "none", api.Tape{}, 0, answer{})
	wantDiverge(t, "none", api.Tape{}, 1, answer{e: noTape})
	wantDiverge(t, "no Rest", api.Tape{Log: []int{5, 6}}, 1, answer{log: []int{5}})
	wantDiverge(t, "no Log", api.Tape{Rest: []int{7, 8}}, 0, answer{rest: []int{7, 8}})
	wantDiverge(t, "no Log", api.Tape{Rest: []int{7, 8}}, 1, answer{e: noTape})
}

// TestP16_3_EachPlace diverges at each place, and at those beyond the ends.
func TestP16_3_EachPlace(t *testing.T) {
	for what, x := range mayBe() {
		for used := -3; used <= len(x.Log)+len(x.Rest)+3; used++ {
			wantDiverge(t, what, x, used, divergeByWords(x, used))
		}
	}
}

// TestP16_3_Full: a Log of 1000 may be left whole; so Draw's last error is none of these.
func TestP16_3_Full(t *testing.T) {
	full := sized(most, 0)
	wantDiverge(t, "full", full, 1000, answer{log: row(1, 1000)})
	wantDiverge(t, "full", full, 999, answer{log: row(1, 999)})
	wantDiverge(t, "full", full, 0, answer{})
	wantDiverge(t, "full", full, 1001, answer{e: noTape})
	both := sized(600, 400)
	wantDiverge(t, "full, of both", both, 600, answer{log: row(1, 600), rest: row(5001, 400)})
	wantDiverge(t, "full, of both", both, 1, answer{log: []int{1}, rest: row(5001, 400)})
	wantDiverge(t, "full, of both", both, 601, answer{e: noTape})
}

func TestP16_3_UsedFarOff(t *testing.T) {
	for what, x := range mayBe() {
		for _, used := range []int{signed, signed + 1, signed + 1000, -1 << 32, -1000, -2, -1, 1001, 1002, 2000, 1 << 20, 1 << 32, 1<<32 + 1, 1 << 62, highest - 1, highest} {
			wantDiverge(t, fmt.Sprint(what, ", far off"), x, used, answer{e: noTape})
		}
	}
}

// TestP16_3_WhatMayNotBe: also where what was wrong would be forgotten.
func TestP16_3_WhatMayNotBe(t *testing.T) {
	for what, x := range mayNotBe() {
		for _, used := range []int{0, 1, 2, 3, 600, 999, 1000, 1001, len(x.Log) - 1, len(x.Log), len(x.Log) + 1, -1} {
			wantDiverge(t, what, x, used, answer{e: noTape})
		}
	}
	if _, e := tape.Diverge(api.Tape{}, 1); e != 160 {
		t.Errorf("the error is %d", e)
	}
}
