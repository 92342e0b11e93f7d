package prim_test

import (
	"anamnesis/api"
	"math"
	"testing"
)

// wantNumber is of two SmallIntegers, told as such, and of one that comes of them.
func wantNumber(t *testing.T, num, s, a, want int) {
	t.Helper()
	wantDo(t, "SmallIntegers", few(), num, 2*s+1, []int{2*a + 1}, answer{h: few(), v: 2*want + 1})
}

func wantNoNumber(t *testing.T, num, s, a int) {
	t.Helper()
	wantDo(t, "SmallIntegers", few(), num, 2*s+1, []int{2*a + 1}, failure(few()))
}

func TestP13_2_SumsByHand(t *testing.T) {
	const most, lowest = 1<<30 - 1, -1 << 30
	for _, x := range []struct{ num, s, a, want int }{
		{1, 3, 4, 7}, {1, 0, 0, 0}, {1, -3, 4, 1}, {1, most, 0, most}, {1, most - 1, 1, most}, {1, lowest, 0, lowest}, {1, lowest + 1, -1, lowest}, {1, most, lowest, -1},
		{2, 3, 4, -1}, {2, 4, 3, 1}, {2, 0, most, -most}, {2, -1, most, lowest}, {2, lowest, lowest, 0}, {2, most, most, 0}, {2, most, 0, most}, {2, -1, lowest, most},
		{3, 3, 4, 12}, {3, -3, 4, -12}, {3, -3, -4, 12}, {3, 0, lowest, 0}, {3, most, 1, most}, {3, most, -1, -most}, {3, lowest, 1, lowest}, {3, 1 << 15, -1 << 15, lowest}, {3, 1 << 29, -2, lowest}, {3, 32767, 32769, most},
	} {
		wantNumber(t, x.num, x.s, x.a, x.want)
	}
	for _, x := range []struct{ num, s, a int }{
		{1, most, 1}, {1, 1, most}, {1, lowest, -1}, {1, most, most}, {1, lowest, lowest},
		{2, lowest, 1}, {2, most, -1}, {2, 0, lowest}, {2, -2, most}, {2, lowest, most}, {2, most, lowest},
		{3, lowest, -1}, {3, -1, lowest}, {3, 1 << 15, 1 << 15}, {3, -1 << 15, -1 << 15}, {3, most, 2}, {3, most, most}, {3, lowest, lowest}, {3, lowest, most}, {3, 32769, -32769},
	} {
		wantNoNumber(t, x.num, x.s, x.a)
	}
}

func TestP13_2_QuotientsByHand(t *testing.T) {
	const most, lowest = 1<<30 - 1, -1 << 30
	for _, x := range []struct{ s, a, quotient, left int }{
		{7, 2, 3, 1}, {-7, 2, -4, 1}, {7, -2, -4, -1}, {-7, -2, 3, -1},
		{6, 2, 3, 0}, {-6, 2, -3, 0}, {6, -2, -3, 0}, {-6, -2, 3, 0},
		{1, 3, 0, 1}, {-1, 3, -1, 2}, {1, -3, -1, -2}, {-1, -3, 0, -1},
		{0, 5, 0, 0}, {0, -5, 0, 0}, {5, 1, 5, 0}, {-5, 1, -5, 0}, {5, -1, -5, 0},
		{most, most, 1, 0}, {most, lowest, -1, -1}, {lowest, most, -2, most - 1}, {lowest, lowest, 1, 0},
		{most, 1, most, 0}, {lowest, 1, lowest, 0}, {most, -1, -most, 0}, {1, lowest, -1, lowest + 1}, {-1, most, -1, most - 1},
	} {
		wantNumber(t, 4, x.s, x.a, x.quotient)
		wantNumber(t, 5, x.s, x.a, x.left)
	}
	for _, s := range []int{0, 5, -5, most, lowest} {
		wantNoNumber(t, 4, s, 0)
		wantNoNumber(t, 5, s, 0)
	}
	wantNoNumber(t, 4, lowest, -1)
	wantNumber(t, 5, lowest, -1, 0)
}

func TestP13_2_ComparedByHand(t *testing.T) {
	for _, x := range []struct{ num, s, a, want int }{
		{6, 7, 9, yes}, {6, 9, 7, no}, {6, 7, 7, no}, {6, -1, 1, yes}, {6, 1, -1, no}, {6, -3, -1, yes}, {6, least, greatest, yes}, {6, greatest, least, no},
		{7, 7, 9, no}, {7, 9, 7, no}, {7, 7, 7, yes}, {7, -1, 1, no}, {7, least, least, yes}, {7, least, greatest, no},
	} {
		wantDo(t, "compared", few(), x.num, x.s, []int{x.a}, answer{h: few(), v: x.want})
	}
}

// TestP13_2_SmallIntegersAlone: no ref will do for primitives 1 to 7, on neither side.
func TestP13_2_SmallIntegersAlone(t *testing.T) {
	for num := 1; num <= 7; num++ {
		for i := range few().Objs {
			wantDo(t, "a ref", few(), num, 2*i, []int{7}, failure(few()))
			wantDo(t, "a ref", few(), num, 7, []int{2 * i}, failure(few()))
			wantDo(t, "refs", few(), num, 2*i, []int{2 * i}, failure(few()))
		}
	}
}

// TestP13_2_ManyNumbers: all small ones, each with each, and a fixed spread.
func TestP13_2_ManyNumbers(t *testing.T) {
	h := api.Heap{Cap: 12, Objs: make([]api.Obj, 12)}
	for num := 1; num <= 7; num++ {
		for s := -21; s <= 21; s += 2 {
			for a := -21; a <= 21; a += 2 {
				wantWords(t, "small ones", h, num, s, a)
			}
		}
	}
	s := spread(1)
	small := func() int { return s.next()>>(33+s.below(31))<<1 | 1 }
	for range 30000 {
		wantWords(t, "one of many", h, 1+s.below(7), small(), small())
	}
}

// TestP13_2_QuotientAndRest: what was divided comes back, and what is left is 0, or of the divisor's sign and nearer to 0.
func TestP13_2_QuotientAndRest(t *testing.T) {
	h := api.Heap{Cap: 12, Objs: make([]api.Obj, 12)}
	for v := -41; v <= 41; v += 2 {
		for w := -15; w <= 15; w += 2 {
			if w == 1 {
				continue
			}
			s, a := (v-1)/2, (w-1)/2
			q, left := dividedByWords(s, a)
			if q*a+left != s || q != int(math.Floor(float64(s)/float64(a))) {
				t.Fatalf("by words %d by %d: %d, and %d", s, a, q, left)
			}
			wantDo(t, "quotient", h, 4, v, []int{w}, answer{h: h, v: 2*q + 1})
			wantDo(t, "rest", h, 5, v, []int{w}, answer{h: h, v: 2*left + 1})
		}
	}
}

func TestP13_2_FloatsByHand(t *testing.T) {
	for _, x := range []struct {
		num, s, a int
		want      float64
	}{
		{17, 40, 7, 4.5}, {17, 7, 40, 4.5}, {17, 7, 9, 7}, {17, 40, 40, 3}, {17, 46, 40, math.Inf(1)}, {17, 44, 40, math.NaN()}, {17, greatest, 3, 1 << 30},
		{18, 40, 7, -1.5}, {18, 7, 40, 1.5}, {18, 9, 7, 1}, {18, 40, 40, 0}, {18, 46, 46, math.NaN()}, {18, least, 3, -1<<30 - 1},
		{19, 40, 7, 4.5}, {19, 7, 9, 12}, {19, 40, 62, -4.5}, {19, 46, 1, math.NaN()}, {19, 46, 62, math.Inf(-1)}, {19, greatest, greatest, (1<<30 - 1) * (1<<30 - 1)},
		{20, 7, 9, 0.75}, {20, 9, 7, 4.0 / 3}, {20, 40, 62, -0.5}, {20, 7, 1, math.Inf(1)}, {20, 7, 42, math.Inf(-1)}, {20, 1, 1, math.NaN()}, {20, 46, 46, math.NaN()}, {20, 40, 46, 0},
	} {
		want := answer{h: more(api.Obj{Class: 8, Kind: 2, Bits: bitsOf(x.want)}), v: 64}
		wantDo(t, "floats", few(), x.num, x.s, []int{x.a}, want)
	}
	minusZero := answer{h: more(api.Obj{Class: 8, Kind: 2, Bits: signed}), v: 64}
	wantDo(t, "both have the sign", few(), 17, 42, []int{42}, minusZero)
	wantDo(t, "a product's sign", few(), 19, 62, []int{1}, minusZero)
	wantDo(t, "a quotient's sign", few(), 20, 1, []int{62}, minusZero)
	plusZero := answer{h: more(api.Obj{Class: 8, Kind: 2}), v: 64}
	wantDo(t, "no sign", few(), 17, 42, []int{1}, plusZero)
	wantDo(t, "no sign", few(), 18, 42, []int{42}, plusZero)
}

func TestP13_2_FloatsComparedByHand(t *testing.T) {
	for _, x := range []struct{ num, s, a, want int }{
		{21, 40, 7, yes}, {21, 7, 40, no}, {21, 40, 40, no}, {21, 42, 1, no}, {21, 1, 42, no}, {21, 62, 40, yes}, {21, 44, 40, no}, {21, 40, 44, no}, {21, 40, 46, yes}, {21, 3, 5, yes}, {21, 5, 3, no},
		{22, 40, 40, yes}, {22, 40, 7, no}, {22, 42, 1, yes}, {22, 1, 42, yes}, {22, 44, 44, no}, {22, 46, 46, yes}, {22, 20, 5, yes}, {22, 5, 20, yes}, {22, 5, 5, yes}, {22, 5, 7, no},
	} {
		wantDo(t, "floats", few(), x.num, x.s, []int{x.a}, answer{h: few(), v: x.want})
	}
}

func TestP13_2_TruncByHand(t *testing.T) {
	for self, want := range map[int]int{40: 3, 42: 1, 62: -5, 20: 5, 48: greatest, 52: least, 7: 7, -5: -5, 1: 1, greatest: greatest, least: least} {
		wantDo(t, "trunc", few(), 23, self, nil, answer{h: few(), v: want})
	}
	for _, self := range []int{44, 46, 50, 54, 0, 24, 34, 56} {
		wantDo(t, "trunc", few(), 23, self, nil, failure(few()))
	}
}

func TestP13_2_NewFloatByHand(t *testing.T) {
	for self, bits := range map[int]int{7: bitsOf(3), -5: bitsOf(-3), 1: 0, greatest: bitsOf(1<<30 - 1), least: bitsOf(-1 << 30), 40: bitsOf(1.5), 42: signed, 44: theNaN, 46: infinite, 54: bitsOf(-1<<30 - 1)} {
		wantDo(t, "new", few(), 24, self, nil, answer{h: more(api.Obj{Class: 8, Kind: 2, Bits: bits}), v: 64})
	}
	for _, self := range []int{0, 8, 24, 34, 56} {
		wantDo(t, "new", few(), 24, self, nil, failure(few()))
	}
}

// TestP13_2_AnyFloat: what is floated is of Kind Float, of whatever class; a new one is of object 4's, whatever that is.
func TestP13_2_AnyFloat(t *testing.T) {
	h := turnedObj(4, func(o *api.Obj) { *o = api.Obj{Class: 8, Kind: 1, Text: "no class"} })
	for num := 17; num <= 24; num++ {
		for class := 0; class < 64; class += 2 {
			g := copyOf(h)
			g.Objs[20].Class = class
			args := []int{5, 5}[:countByWords(num)]
			want := doByWords(g, num, 40, args)
			if want.e != api.OK {
				t.Fatalf("%d by words: error %d", num, want.e)
			}
			wantDo(t, "any float", g, num, 40, args, want)
		}
	}
}

// TestP13_2_ManyFloats: a fixed spread of bits.
func TestP13_2_ManyFloats(t *testing.T) {
	s := spread(2)
	bits := func() int {
		switch s.below(3) {
		case 0:
			return bitsOf(math.Float64frombits(uint64(s.next())))
		case 1:
			return bitsOf(float64(s.next()) / (1 << 33))
		}
		return s.of([]int{0, signed, 1, signed + 1, infinite, infinite + signed, infinite - 1, theNaN, bitsOf(1), bitsOf(-1)})
	}
	for range 5000 {
		h := few()
		h.Objs[20].Bits, h.Objs[31].Bits = bits(), bits()
		for num := 17; num <= 24; num++ {
			args := []int{62}[:countByWords(num)]
			wantWords(t, "one of many", h, num, 40, args...)
		}
	}
}
