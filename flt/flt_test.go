package flt

import (
	"fmt"
	"testing"
)

const (
	inf     = infBits
	minus   = signBit
	highest = 1<<63 - 1
	two     = one + 1<<52
	three   = 0x4008000000000000
	half    = one - 1<<52
)

func TestP2_1_Canon(t *testing.T) {
	if Canon(nanBits) != nanBits || nanBits != 0x7ff8000000000001 {
		t.Errorf("Canon of the NaN = %#x", Canon(nanBits))
	}
	for _, f := range []int{1, 2, 5, 1 << 51, 1<<51 + 1, 1<<51 + 2, 1<<52 - 1} {
		for _, a := range []int{inf | f, minus | inf | f} {
			if c := Canon(a); c != nanBits {
				t.Errorf("Canon(%#x) = %#x; want the NaN", uint64(a), uint64(c))
			}
		}
	}
	for _, a := range edges() {
		want := a
		if refNaN(a) {
			want = nanBits
		}
		if c := Canon(a); c != want {
			t.Errorf("Canon(%#x) = %#x; want %#x", uint64(a), uint64(c), uint64(want))
		}
	}
}

func TestP2_1_Kind(t *testing.T) {
	for kind, l := range [][]int{
		{inf + 1, nanBits, nanBits - 1, nanBits + 1, highest, inf | 1<<51},
		{inf},
		{0},
		{leastSub, 2, 1 << 51, mostSub - 1, mostSub},
		{leastNor, leastNor + 1, half, one, one + 1, two, three, mostNor - 1, mostNor, 2046 << 52},
	} {
		for _, a := range withSigns(l) {
			if k := Kind(a); k != kind {
				t.Errorf("Kind(%#x) = %d; want %d", uint64(a), k, kind)
			}
		}
	}
}

func TestP2_1_KindOfEachExponent(t *testing.T) {
	for x := range 2048 {
		for _, f := range []int{0, 1, 1 << 51, 1<<52 - 1} {
			want := 4
			switch {
			case x == 2047 && f != 0:
				want = 0
			case x == 2047:
				want = 1
			case x == 0 && f == 0:
				want = 2
			case x == 0:
				want = 3
			}
			for _, a := range []int{x<<52 | f, minus | x<<52 | f} {
				if k := Kind(a); k != want {
					t.Errorf("Kind(%#x) = %d; want %d", uint64(a), k, want)
				}
			}
		}
	}
}

func TestP2_1_Text(t *testing.T) {
	for a, want := range map[int]string{
		0:                  "0000000000000000",
		1:                  "0000000000000001",
		one:                "3ff0000000000000",
		minus:              "8000000000000000",
		minus | inf:        "fff0000000000000",
		nanBits:            "7ff8000000000001",
		-1:                 "ffffffffffffffff", // no Canon here: the bits as they are
		highest:            "7fffffffffffffff",
		0x123456789abcdef:  "0123456789abcdef",
		0x7edcba9876543210: "7edcba9876543210",
	} {
		if s := Text(a); s != want {
			t.Errorf("Text(%#x) = %q; want %q", uint64(a), s, want)
		}
	}
	s := spread(2)
	for range 10000 {
		a := s.next()
		if got, want := Text(a), fmt.Sprintf("%016x", uint64(a)); got != want {
			t.Fatalf("Text(%d) = %q; want %q", a, got, want)
		}
	}
}

func TestP2_2_Of(t *testing.T) {
	for n, want := range map[int]int{
		0: 0, 1: 4607182418800017408, -1: minus | one, 2: two, 3: three, -3: minus | three, 7: 0x401c000000000000,
		1 << 53: 0x4340000000000000, 1<<53 - 1: 0x433fffffffffffff, 1<<53 - 2: 0x433ffffffffffffe,
		-1 << 53: minus | 0x4340000000000000, -1<<53 + 1: minus | 0x433fffffffffffff,
		1<<30 - 1: 0x41cfffffff800000, -1 << 30: minus | 0x41d0000000000000,
	} {
		if a := Of(n); a != want {
			t.Errorf("Of(%d) = %#x; want %#x", n, uint64(a), uint64(want))
		}
	}
	for _, n := range []int{1<<53 + 1, 1<<53 + 2, -1<<53 - 1, -1<<53 - 2, 1 << 54, -1 << 54, 1 << 62, -1 << 62, minus, minus + 1, highest, highest - 1} {
		if a := Of(n); a != nanBits {
			t.Errorf("Of(%d) = %#x; want the NaN", n, uint64(a))
		}
	}
}

func TestP2_2_OfIsExact(t *testing.T) {
	check := func(n int) {
		t.Helper()
		a := Of(n)
		units := signedUnits(a)
		if refNaN(a) || units.Cmp(units.Quo(units, scale()).Lsh(units, 1074)) != 0 {
			t.Fatalf("Of(%d) = %#x is no whole number", n, uint64(a))
		}
		if got := units.Rsh(units, 1074); !got.IsInt64() || got.Int64() != int64(n) {
			t.Fatalf("Of(%d) = %#x is %v", n, uint64(a), got)
		}
	}
	s := spread(3)
	for range 5000 {
		n := s.next() >> 10 >> (s.next() & 31)
		check(n)
		check(-n)
	}
	for e := range 54 {
		for _, n := range []int{1<<e - 1, 1 << e} {
			check(n)
			check(-n)
		}
	}
}

// TestP2_2_OpByHand has what the chapter names, each case with its outcome written out.
func TestP2_2_OpByHand(t *testing.T) {
	for _, c := range []struct{ do, a, b, want int }{
		{0, one, two, three}, {1, three, two, one}, {2, two, half, one}, {3, one, two, half},
		{0, one, one, two}, {1, two, three, minus | one}, {2, minus | one, minus | two, two}, {3, three, minus | three, minus | one},
		{0, 0x3fb999999999999a, 0x3fc999999999999a, 0x3fd3333333333334}, // 0.1 and 0.2
		{3, one, three, 0x3fd5555555555555},
		// To even: one and half its last bit, one's neighbour and half of that.
		{0, one, (1023 - 53) << 52, one}, {0, one + 1, (1023 - 53) << 52, one + 2},
		{0, one, (1023-53)<<52 + 1, one + 1}, {0, one + 1, (1023-53)<<52 - 1, one + 1},
		{1, one, (1023 - 54) << 52, one}, {1, one, (1023-54)<<52 + 1, one - 1},
		{2, leastSub, half, 0}, {2, 3, half, 2}, {2, 5, half, 2}, {2, 7, half, 4}, {3, leastSub, two, 0}, {3, 3, two, 2},
		{2, leastSub, half + 1, 1}, {2, minus | leastSub, half, minus}, {3, leastSub, minus | two, minus},
		// From kind to kind.
		{0, mostSub, leastSub, leastNor}, {1, leastNor, leastSub, mostSub}, {1, leastNor + 1, leastNor, leastSub},
		{2, leastNor, half, 1 << 51}, {3, 1 << 51, half, leastNor}, {2, leastNor, minus | leastNor, minus},
		// Overflow: what rounds to 2^1024 is infinite, what lies less than half a last bit above the greatest is not.
		{0, mostNor, mostNor, inf}, {1, minus | mostNor, mostNor, minus | inf}, {2, mostNor, two, inf}, {2, mostNor, minus | two, minus | inf},
		{3, mostNor, half, inf}, {2, mostNor, mostNor, inf}, {3, mostNor, leastSub, inf},
		{0, mostNor, (2046 - 53) << 52, inf}, {0, mostNor, (2046-53)<<52 - 1, mostNor}, {0, mostNor, one, mostNor},
		{0, mostNor - 1, (2046 - 53) << 52, mostNor - 1}, {1, minus | mostNor, (2046 - 53) << 52, minus | inf},
		// Infinite ones.
		{0, inf, inf, inf}, {0, minus | inf, minus | inf, minus | inf}, {0, inf, minus | inf, nanBits}, {0, minus | inf, inf, nanBits},
		{1, inf, minus | inf, inf}, {1, minus | inf, inf, minus | inf}, {1, inf, inf, nanBits}, {1, minus | inf, minus | inf, nanBits},
		{0, inf, minus | mostNor, inf}, {0, one, minus | inf, minus | inf}, {1, one, inf, minus | inf}, {1, one, minus | inf, inf},
		{2, inf, minus | inf, minus | inf}, {2, minus | inf, minus | leastSub, inf}, {2, inf, 0, nanBits}, {2, minus, inf, nanBits},
		{3, inf, inf, nanBits}, {3, inf, minus | inf, nanBits}, {3, inf, 0, inf}, {3, inf, minus, minus | inf}, {3, inf, minus | one, minus | inf},
		{3, one, inf, 0}, {3, one, minus | inf, minus}, {3, 0, minus | inf, minus}, {3, minus, minus | inf, 0},
		// Zeros.
		{3, one, minus, minus | inf}, {3, one, 0, inf}, {3, minus | one, 0, minus | inf}, {3, minus | leastSub, minus, inf},
		{3, 0, 0, nanBits}, {3, 0, minus, nanBits}, {3, minus, minus, nanBits}, {3, 0, one, 0}, {3, 0, minus | one, minus},
		{0, 0, 0, 0}, {0, 0, minus, 0}, {0, minus, 0, 0}, {0, minus, minus, minus}, {0, one, minus | one, 0}, {0, minus | one, one, 0},
		{1, 0, 0, 0}, {1, minus, minus, 0}, {1, 0, minus, 0}, {1, minus, 0, minus}, {1, one, one, 0}, {1, minus | one, minus | one, 0},
		{2, 0, 0, 0}, {2, 0, minus, minus}, {2, minus, minus, 0}, {2, minus, one, minus}, {2, 0, minus | three, minus},
	} {
		if got := Op(c.do, c.a, c.b); got != c.want {
			t.Errorf("Op(%d, %#x, %#x) = %#x; want %#x", c.do, uint64(c.a), uint64(c.b), uint64(got), uint64(c.want))
		}
	}
}

// TestP2_2_OpIsNearest holds Op against sums, products and quotients of whole numbers, rounded by search.
func TestP2_2_OpIsNearest(t *testing.T) {
	pairs(3000, func(a, b int) {
		for do := range 4 {
			if got, want := Op(do, a, b), refOp(do, a, b); got != want {
				t.Fatalf("Op(%d, %#x, %#x) = %#x; want %#x", do, uint64(a), uint64(b), uint64(got), uint64(want))
			}
		}
	})
}

func TestP2_2_OpOfNaN(t *testing.T) {
	for _, a := range withSigns([]int{nanBits, nanBits - 1, inf + 1, inf + 5, highest}) {
		for _, b := range edges() {
			for do := range 4 {
				if x, y := Op(do, a, b), Op(do, b, a); x != nanBits || y != nanBits {
					t.Fatalf("Op(%d) of %#x and %#x = %#x and %#x; want the NaN", do, uint64(a), uint64(b), uint64(x), uint64(y))
				}
			}
		}
	}
}

func TestP2_2_OpOfAnyOtherDo(t *testing.T) {
	for _, do := range []int{-1, -2, -4, 4, 5, 8, 256, 1 << 32, -1 << 32, minus, highest} {
		for _, a := range edges() {
			if got := Op(do, a, one); got != nanBits {
				t.Fatalf("Op(%d, %#x, 1) = %#x; want the NaN", do, uint64(a), uint64(got))
			}
		}
	}
}

func TestP2_3_LessAndEqualByHand(t *testing.T) {
	// From below to above; ones of one row are the same number.
	rows := [][]int{
		{minus | inf}, {minus | mostNor}, {minus | two}, {minus | one + 1}, {minus | one}, {minus | leastNor}, {minus | mostSub}, {minus | leastSub},
		{0, minus},
		{leastSub}, {2}, {mostSub}, {leastNor}, {half}, {one - 1}, {one}, {one + 1}, {two}, {mostNor}, {inf},
	}
	for i, l := range rows {
		for j, m := range rows {
			for _, a := range l {
				for _, b := range m {
					if Less(a, b) != (i < j) || Equal(a, b) != (i == j) {
						t.Errorf("%#x and %#x: Less %v, Equal %v", uint64(a), uint64(b), Less(a, b), Equal(a, b))
					}
				}
			}
		}
	}
	for _, a := range withSigns([]int{nanBits, inf + 1, highest}) {
		for _, b := range edges() {
			if Less(a, b) || Less(b, a) || Equal(a, b) || Equal(b, a) || Equal(a, a) {
				t.Errorf("a NaN, %#x, is below or equal to %#x, or above it", uint64(a), uint64(b))
			}
		}
	}
}

func TestP2_3_LessAndEqual(t *testing.T) {
	pairs(20000, func(a, b int) {
		if got, want := Less(a, b), refLess(a, b); got != want {
			t.Fatalf("Less(%#x, %#x) = %v", uint64(a), uint64(b), got)
		}
		if got, want := Equal(a, b), refEqual(a, b); got != want {
			t.Fatalf("Equal(%#x, %#x) = %v", uint64(a), uint64(b), got)
		}
	})
}

func TestP2_3_TruncByHand(t *testing.T) {
	const most = 0x41cfffffff800000  // 2^30 - 1
	const above = 0x41d0000000000000 // 2^30
	for a, want := range map[int]int{
		0: 0, minus: 0, leastSub: 0, minus | leastSub: 0, mostSub: 0, half: 0, minus | half: 0, one - 1: 0, minus | (one - 1): 0,
		one: 1, minus | one: -1, two - 1: 1, minus | (two - 1): -1, three: 3,
		most: 1<<30 - 1, most - 1: 1<<30 - 2, most + 1: 1<<30 - 1, above - 1: 1<<30 - 1,
		minus | above: -1 << 30, minus | (above + 1): -1 << 30, minus | 0x41d0000000200000: -1 << 30, minus | 0x41d00000003fffff: -1 << 30,
		minus | most: -1<<30 + 1, minus | (above - 1): -1<<30 + 1,
	} {
		if n, ok := Trunc(a); n != want || !ok {
			t.Errorf("Trunc(%#x) = %d, %v; want %d, true", uint64(a), n, ok, want)
		}
	}
	for _, a := range []int{
		above, above + 1, minus | 0x41d0000000400000, minus | 0x41d0000000400001, 0x41d0000000400000,
		0x41f0000000000000, 0x43e0000000000000, minus | 0x43e0000000000000, 0x43f0000000000000, mostNor, minus | mostNor,
		inf, minus | inf, nanBits, minus | nanBits, inf + 1, highest, -1,
	} {
		if n, ok := Trunc(a); n != 0 || ok {
			t.Errorf("Trunc(%#x) = %d, %v; want 0, false", uint64(a), n, ok)
		}
	}
}

func TestP2_3_Trunc(t *testing.T) {
	check := func(a int) {
		t.Helper()
		n, ok := Trunc(a)
		if want, wantOK := refTrunc(a); n != want || ok != wantOK {
			t.Fatalf("Trunc(%#x) = %d, %v; want %d, %v", uint64(a), n, ok, want, wantOK)
		}
	}
	for _, a := range edges() {
		check(a)
	}
	s := spread(4)
	for range 20000 {
		check(s.next())
		// Most floats are far from any SmallInteger: so go through the exponents about theirs, too.
		a := s.next()
		check(a&^inf | (1020+a>>52&2047%40)<<52)
	}
	for _, n := range []int{0, 1, 2, 3, 1000, 1<<30 - 2, 1<<30 - 1} {
		for _, m := range []int{n, -n} {
			if back, ok := Trunc(Of(m)); back != m || !ok {
				t.Errorf("Trunc(Of(%d)) = %d, %v", m, back, ok)
			}
		}
	}
}

func TestP2_4_OrderDoesNotMatter(t *testing.T) {
	pairs(20000, func(a, b int) {
		for _, do := range []int{0, 2} {
			if x, y := Op(do, a, b), Op(do, b, a); x != y {
				t.Fatalf("Op(%d) of %#x and %#x = %#x, and %#x turned round", do, uint64(a), uint64(b), uint64(x), uint64(y))
			}
		}
	})
}

// TestP2_4_LessTurnsRound takes the words both ways: a less b is b less a with the other sign, and of a below b and b below a only one holds.
func TestP2_4_LessTurnsRound(t *testing.T) {
	pairs(20000, func(a, b int) {
		x, y := Op(1, a, b), Op(1, b, a)
		if Equal(x, 0) != Equal(y, 0) || !Equal(x, 0) && x != Canon(y^minus) {
			t.Fatalf("%#x less %#x = %#x, and %#x turned round", uint64(a), uint64(b), uint64(x), uint64(y))
		}
		if sum := Op(0, a, b^minus); sum != x {
			t.Fatalf("%#x less %#x = %#x, but %#x, added with the other sign", uint64(a), uint64(b), uint64(x), uint64(sum))
		}
		held := 0
		for _, is := range []bool{Less(a, b), Less(b, a), Equal(a, b)} {
			if is {
				held++
			}
		}
		if isNaN := Kind(a) == 0 || Kind(b) == 0; isNaN && held != 0 || !isNaN && held != 1 {
			t.Fatalf("%#x and %#x: %d of below, above and equal", uint64(a), uint64(b), held)
		}
	})
}

// TestP2_4_AnswersAreCanon: whatever is made is no other NaN than the one.
func TestP2_4_AnswersAreCanon(t *testing.T) {
	pairs(20000, func(a, b int) {
		for do := -1; do <= 4; do++ {
			if x := Op(do, a, b); Canon(x) != x {
				t.Fatalf("Op(%d, %#x, %#x) = %#x", do, uint64(a), uint64(b), uint64(x))
			}
		}
	})
}
