package crc

import (
	"hash/crc32"
	"strings"
	"testing"
)

// known are sums that others tell of these texts.
var known = map[string]int{
	"":                 0,
	"123456789":        3421780262,
	"a":                0xe8b7be43,
	"abc":              0x352441c2,
	"\x00":             0xd202ef8d,
	"\x00\x00\x00\x00": 0x2144df1c,
	"\xff":             0xff000000,
	"\xff\xff\xff\xff": 0xffffffff,
	"The quick brown fox jumps over the lazy dog": 0x414fa339,
}

func TestP7_1_Of(t *testing.T) {
	for s, want := range known {
		if n := Of(s); n != want {
			t.Errorf("Of(%q) = %#x; want %#x", s, n, want)
		}
	}
	for _, s := range someTexts() {
		if n, want := Of(s), More(0, s); n != want {
			t.Errorf("Of(%q) = %#x; More of 0 and it is %#x", s, n, want)
		}
		if n, want := Of(s), int(crc32.ChecksumIEEE([]byte(s))); n != want {
			t.Errorf("Of(%q) = %#x; want %#x", s, n, want)
		}
	}
}

// TestP7_1_MoreByWords holds More against the chapter's words, and against the library's table of the same polynomial.
func TestP7_1_MoreByWords(t *testing.T) {
	for _, sum := range someSums() {
		for _, s := range someTexts() {
			n, want := More(sum, s), moreByWords(sum, s)
			if n != want {
				t.Fatalf("More(%#x, %q) = %#x; want %#x", sum, s, n, want)
			}
			if lib := int(crc32.Update(uint32(sum), crc32.IEEETable, []byte(s))); n != lib {
				t.Fatalf("More(%#x, %q) = %#x; want %#x", sum, s, n, lib)
			}
		}
	}
}

func TestP7_1_MoreOfEachByte(t *testing.T) {
	for _, sum := range []int{0, 1, 128, 255, greatest, greatest - 255, 3421780262} {
		for b := range 256 {
			s := string([]byte{byte(b)})
			if n, want := More(sum, s), moreByWords(sum, s); n != want {
				t.Errorf("More(%#x, %q) = %#x; want %#x", sum, s, n, want)
			}
		}
	}
}

func TestP7_1_MoreOfNothing(t *testing.T) {
	for _, sum := range someSums() {
		if n := More(sum, ""); n != sum {
			t.Errorf("More(%#x, nothing) = %#x", sum, n)
		}
	}
}

func TestP7_1_MoreOfNoSum(t *testing.T) {
	for _, sum := range noSums {
		for _, s := range []string{"", "a", "\x00", "\xff", "123456789", strings.Repeat("x", 1000)} {
			if n := More(sum, s); n != 0 {
				t.Errorf("More(%d, %q) = %d; want 0", sum, s, n)
			}
		}
	}
}

// TestP7_1_LongTexts has texts of which each byte counts, far behind the first ones.
func TestP7_1_LongTexts(t *testing.T) {
	s := spread(5)
	for _, long := range []string{strings.Repeat("\x00", 1<<20), strings.Repeat("abc", 300001), s.text(1<<20 + 3)} {
		if n, want := Of(long), int(crc32.ChecksumIEEE([]byte(long))); n != want {
			t.Errorf("%d bytes: %#x; want %#x", len(long), n, want)
		}
		for _, sum := range []int{1, greatest} {
			if n, want := More(sum, long), int(crc32.Update(uint32(sum), crc32.IEEETable, []byte(long))); n != want {
				t.Errorf("%#x, and %d bytes: %#x; want %#x", sum, len(long), n, want)
			}
		}
	}
}

func TestP7_2_Bytes(t *testing.T) {
	for sum, want := range map[int]string{
		0:          "\x00\x00\x00\x00",
		1:          "\x01\x00\x00\x00",
		255:        "\xff\x00\x00\x00",
		256:        "\x00\x01\x00\x00",
		1 << 16:    "\x00\x00\x01\x00",
		1 << 24:    "\x00\x00\x00\x01",
		1 << 31:    "\x00\x00\x00\x80",
		1<<31 - 1:  "\xff\xff\xff\x7f",
		0x01020304: "\x04\x03\x02\x01",
		3421780262: "\x26\x39\xf4\xcb",
		greatest:   "\xff\xff\xff\xff",
	} {
		if s := Bytes(sum); s != want {
			t.Errorf("Bytes(%#x) = %q; want %q", sum, s, want)
		}
	}
	for _, sum := range someSums() {
		s := Bytes(sum)
		if len(s) != 4 {
			t.Fatalf("Bytes(%#x) = %q", sum, s)
		}
		if n := int(s[0]) + 256*int(s[1]) + 65536*int(s[2]) + 16777216*int(s[3]); n != sum {
			t.Errorf("Bytes(%#x) = %q, that is %#x", sum, s, n)
		}
	}
}

func TestP7_2_BytesOfNoSum(t *testing.T) {
	for _, sum := range noSums {
		if s := Bytes(sum); s != "" {
			t.Errorf("Bytes(%d) = %q; want nothing", sum, s)
		}
	}
}

// TestP7_2_BytesOfWhatComes: whatever Of and More answer is a sum, that has four bytes.
func TestP7_2_BytesOfWhatComes(t *testing.T) {
	for _, sum := range append(someSums(), noSums...) {
		for _, s := range someTexts() {
			for _, n := range []int{Of(s), More(sum, s)} {
				if n < 0 || greatest < n || len(Bytes(n)) != 4 {
					t.Fatalf("%d of %d and %q is no sum", n, sum, s)
				}
			}
		}
	}
}

// TestP7_3_Parts takes texts in two parts, in three, and byte by byte.
func TestP7_3_Parts(t *testing.T) {
	for _, sum := range []int{0, 1, 3421780262, greatest} {
		for _, s := range someTexts() {
			want, single := More(sum, s), sum
			for i := range len(s) {
				single = More(single, s[i:i+1])
			}
			if single != want {
				t.Fatalf("%q from %#x byte by byte: %#x; want %#x", s, sum, single, want)
			}
			for i := range len(s) + 1 {
				if n := More(More(sum, s[:i]), s[i:]); n != want {
					t.Fatalf("%q from %#x cut at %d: %#x; want %#x", s, sum, i, n, want)
				}
				k := (i + len(s)) / 2
				if n := More(More(More(sum, s[:i]), s[i:k]), s[k:]); n != want {
					t.Fatalf("%q from %#x cut at %d and %d: %#x; want %#x", s, sum, i, k, n, want)
				}
			}
		}
	}
}

func TestP7_3_OneOtherBit(t *testing.T) {
	for _, sum := range []int{0, 3421780262, greatest} {
		for _, s := range someTexts() {
			was := More(sum, s)
			for k := range 8 * len(s) {
				if other := withOtherBit(s, k); More(sum, other) == was {
					t.Fatalf("%q from %#x: bit %d isn't seen", s, sum, k)
				}
			}
		}
	}
}

func TestP7_3_OneOtherBitOfLongTexts(t *testing.T) {
	s := spread(6)
	long := s.text(1 << 16)
	was := Of(long)
	for k := 0; k < 8*len(long); k += 4099 {
		if Of(withOtherBit(long, k)) == was {
			t.Errorf("bit %d isn't seen", k)
		}
	}
	for _, k := range []int{7, 8*len(long) - 1} {
		if Of(withOtherBit(long, k)) == was {
			t.Errorf("bit %d isn't seen", k)
		}
	}
}

// TestP7_3_OneOtherBitOfTheSum: what was ahead isn't forgotten, and its bytes are other ones.
func TestP7_3_OneOtherBitOfTheSum(t *testing.T) {
	for _, sum := range someSums() {
		for k := range 32 {
			other := sum ^ 1<<k
			if Bytes(sum) == Bytes(other) {
				t.Errorf("%#x and %#x have the same bytes", sum, other)
			}
			for _, s := range []string{"", "a", "123456789", strings.Repeat("\x00", 64)} {
				if More(sum, s) == More(other, s) {
					t.Errorf("%#x and %#x come to the same with %q", sum, other, s)
				}
			}
		}
	}
}

// TestR3_NothingIsKept asks for the same in between, forth and back.
func TestR3_NothingIsKept(t *testing.T) {
	texts := someTexts()
	var first []int
	for _, s := range texts {
		first = append(first, Of(s), More(7, s))
	}
	for _, sum := range noSums {
		More(sum, "x")
		Bytes(sum)
	}
	for i := len(texts) - 1; i >= 0; i-- {
		if Of(texts[i]) != first[2*i] || More(7, texts[i]) != first[2*i+1] {
			t.Errorf("%q: other sums than before", texts[i])
		}
	}
}
