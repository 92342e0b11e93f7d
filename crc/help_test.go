package crc

import "strings"

// The bounds stand here as numbers of their own, so that a test doesn't follow the code into a mistake.
const (
	greatest = 4294967295
	lowest   = -1 << 63
	highest  = 1<<63 - 1
)

// noSums have more bits than 32, or are below 0; the lowest 32 bits of some are those of a sum that is often met.
var noSums = []int{
	-1, -2, -3421780262, -greatest, -greatest - 1, -1 << 31, -1 << 33, lowest, lowest + 1,
	greatest + 1, greatest + 2, greatest + 1 + 3421780262, 1 << 33, 1<<33 - 1, 1 << 40, 1 << 62, highest, highest - 1,
}

// someSums are those at the ends, each that has one bit, or all but one, and others all over.
func someSums() []int {
	l := []int{0, 1, 2, 3, 5, 255, 256, greatest, greatest - 1, greatest - 255, 1<<31 - 1, 1<<31 + 1, 3421780262, 3988292384, 0x01020304}
	for i := range 32 {
		l = append(l, 1<<i, greatest-1<<i)
	}
	s := spread(3)
	for range 40 {
		l = append(l, s.next()&greatest)
	}
	return l
}

// someTexts are few bytes, the same byte again and again, letters that take more bytes than one, and bytes all over.
func someTexts() []string {
	l := []string{
		"", "a", "b", "\x00", "\x01", "\x80", "\xff", "\x00\x00", "\x00a", "a\x00", "ab", "ba", "\xff\xff\xff\xff",
		"123456789", "\u00e9\u4e16\U0001f600", "\xc3\x28\xf0\x9f", strings.Repeat("\x00", 64), strings.Repeat("\xff", 65), strings.Repeat("AN1", 21),
	}
	s := spread(4)
	for n := range 40 {
		l = append(l, s.text(n))
	}
	return l
}

// onWithBit is the sum after one bit, by the chapter's words: on a row of 32 bits, the lowest first.
func onWithBit(sum [32]int, bit int) [32]int {
	other := sum[0] != bit
	var next [32]int
	copy(next[:], sum[1:])
	if other {
		for i, b := range bitsOf(3988292384) {
			next[i] ^= b
		}
	}
	return next
}

func bitsOf(sum int) [32]int {
	var bits [32]int
	for i := range bits {
		bits[i] = sum % 2
		sum /= 2
	}
	return bits
}

func turned(bits [32]int) [32]int {
	for i := range bits {
		bits[i] = 1 - bits[i]
	}
	return bits
}

// moreByWords is More told a second time, bit by bit, of a sum.
func moreByWords(sum int, s string) int {
	bits := turned(bitsOf(sum))
	for i := range len(s) {
		b := int(s[i])
		for range 8 {
			bits = onWithBit(bits, b%2)
			b /= 2
		}
	}
	n, place := 0, 1
	for _, b := range turned(bits) {
		n += b * place
		place *= 2
	}
	return n
}

// withOtherBit is s with bit k of it turned.
func withOtherBit(s string, k int) string {
	b := []byte(s)
	b[k/8] ^= 1 << (k % 8)
	return string(b)
}

// spread is a row of bits all over, the same in each run.
type spread uint64

func (s *spread) next() int {
	*s += 0x9e3779b97f4a7c15
	z := uint64(*s)
	z = (z ^ z>>30) * 0xbf58476d1ce4e5b9
	z = (z ^ z>>27) * 0x94d049bb133111eb
	return int(z ^ z>>31)
}

func (s *spread) text(n int) string {
	b := make([]byte, n)
	for i := range b {
		b[i] = byte(s.next())
	}
	return string(b)
}
