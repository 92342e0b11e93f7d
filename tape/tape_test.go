package tape_test

import (
	"anamnesis/api"
	"anamnesis/tape"
	"fmt"
	"slices"
	"testing"
)

func TestP16_1_ErrTape(t *testing.T) {
	if e := tape.Check(api.Tape{Log: []int{1 << 30}}); e != 160 {
		t.Errorf("the error is %d", e)
	}
}

func TestP16_1_WhatMayBe(t *testing.T) {
	for what, x := range mayBe() {
		wantCheck(t, what, x, true)
	}
}

func TestP16_1_WhatMayNotBe(t *testing.T) {
	for what, x := range mayNotBe() {
		wantCheck(t, what, x, false)
	}
}

// TestP16_1_HowMany: it is Log and Rest together that are 1000 at most, however they share them.
func TestP16_1_HowMany(t *testing.T) {
	for log := range 1003 {
		for _, all := range []int{log, 998, 999, 1000, 1001, 1002, 1999, 2000} {
			if rest := all - log; rest >= 0 {
				wantCheck(t, "how many", sized(log, rest), all <= 1000)
			}
		}
	}
}

// TestP16_1_EachInput puts one number into each place.
func TestP16_1_EachInput(t *testing.T) {
	inputs := []int{greatest, greatest - 1, least, least + 1, 0, 1, -1, 1 << 29, -1 << 29}
	for d := range 50 {
		inputs = append(inputs, greatest-d, least+d, d, -d)
	}
	none := noInputs()
	for d := 1; d < 50; d++ {
		none = append(none, greatest+d, least-d)
	}
	for place := range 7 {
		for n, may := range marked(inputs, none) {
			x := few()
			if place < 3 {
				x.Log[place] = n
			} else {
				x.Rest[place-3] = n
			}
			wantCheck(t, fmt.Sprintf("%d at %d", n, place), x, may)
		}
	}
	for place := range most {
		x := sized(500, 500)
		all := [][]int{x.Log, x.Rest}[place/500]
		all[place%500] = greatest + 1
		wantCheck(t, fmt.Sprint("too great at ", place), x, false)
		all[place%500] = least - 1
		wantCheck(t, fmt.Sprint("too little at ", place), x, false)
		all[place%500] = least
		wantCheck(t, fmt.Sprint("the least at ", place), x, true)
	}
}

// marked is the numbers that are inputs, and those that are none, each with which of them it is.
func marked(inputs, none []int) map[int]bool {
	m := map[int]bool{}
	for _, n := range inputs {
		m[n] = true
	}
	for _, n := range none {
		m[n] = false
	}
	return m
}

func TestP16_1_AllByHand(t *testing.T) {
	for _, x := range []struct{ log, rest, want []int }{
		{nil, nil, nil},
		{[]int{5}, nil, []int{5}},
		{nil, []int{7}, []int{7}},
		{[]int{5}, []int{7}, []int{5, 7}},
		{[]int{5, 6}, []int{7, 8, 9}, []int{5, 6, 7, 8, 9}},
		{[]int{9, 5, 9}, []int{9, 5}, []int{9, 5, 9, 9, 5}},
		{[]int{0, 0}, []int{0}, []int{0, 0, 0}},
		{few().Log, few().Rest, []int{5, -6, greatest, 7, 0, least, 9}},
	} {
		wantAll(t, "by hand", api.Tape{Log: x.log, Rest: x.rest}, x.want)
	}
}

// TestP16_1_AllOfAny: the chapter names no tape of which All tells less.
func TestP16_1_AllOfAny(t *testing.T) {
	for _, tapes := range []map[string]api.Tape{mayBe(), mayNotBe()} {
		for what, x := range tapes {
			wantAll(t, what, x, slices.Concat(x.Log, x.Rest))
		}
	}
	wantAll(t, "no SmallInteger", api.Tape{Log: []int{highest}, Rest: []int{signed}}, []int{highest, signed})
}
