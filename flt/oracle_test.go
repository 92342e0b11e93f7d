package flt

import "math/big"

// What a float is stands here a second time, by the chapter's words and with whole numbers alone: no test leans on the machine's floats.

const (
	nanBits  = 9221120237041090561 // as the chapter tells it
	infBits  = 2047 << 52
	signBit  = -1 << 63
	leastSub = 1
	mostSub  = 1<<52 - 1
	leastNor = 1 << 52
	mostNor  = infBits - 1
	one      = 1023 << 52
)

func refNaN(a int) bool  { return a&^signBit > infBits }
func refInf(a int) bool  { return a&^signBit == infBits }
func refZero(a int) bool { return a&^signBit == 0 }

// unitsOf is how many times 2^-1074 the float without sign is; of the infinite one 2^1024, where rounding ends.
func unitsOf(a int) *big.Int {
	x, f := a>>52, int64(a&(1<<52-1))
	if x == 0 {
		return big.NewInt(f)
	}
	return new(big.Int).Lsh(big.NewInt(1<<52+f), uint(x-1))
}

// signedUnits is the same of a float that may have the sign, but is no NaN; an infinite one is beyond all the others.
func signedUnits(a int) *big.Int {
	u := unitsOf(a &^ signBit)
	if a < 0 {
		u.Neg(u)
	}
	return u
}

func scale() *big.Int { return new(big.Int).Lsh(big.NewInt(1), 1074) }

// nearest is the float nearest to p/q times 2^-1074, of two the one with an even f; it has p's sign, or that of zero.
func nearest(p, q *big.Int, signOfZero int) int {
	sign := signOfZero
	if p.Sign() != 0 {
		sign = 0
	}
	if p.Sign() < 0 {
		sign = signBit
	}
	p = new(big.Int).Abs(p)
	low, above := 0, infBits+1
	for above-low > 1 {
		middle := low + (above-low)/2
		if new(big.Int).Mul(unitsOf(middle), q).Cmp(p) <= 0 {
			low = middle
		} else {
			above = middle
		}
	}
	if low == infBits {
		return sign | infBits
	}
	both := new(big.Int).Add(unitsOf(low), unitsOf(low+1))
	side := new(big.Int).Lsh(p, 1).Cmp(both.Mul(both, q))
	if side > 0 || side == 0 && low&1 == 1 {
		low++
	}
	return sign | low
}

func refOp(do, a, b int) int {
	if refNaN(a) || refNaN(b) {
		return nanBits
	}
	switch do {
	case 0:
		return refSum(a, b)
	case 1:
		return refSum(a, b^signBit)
	case 2:
		return refProduct(a, b)
	case 3:
		return refQuotient(a, b)
	}
	return nanBits
}

func refSum(a, b int) int {
	switch {
	case refInf(a) && refInf(b) && a != b:
		return nanBits
	case refInf(a):
		return a
	case refInf(b):
		return b
	}
	return nearest(new(big.Int).Add(signedUnits(a), signedUnits(b)), big.NewInt(1), bothZeros(a, b))
}

// bothZeros is the sign of a sum that is exactly 0.
func bothZeros(a, b int) int { return a & b & signBit }

func refProduct(a, b int) int {
	sign := (a ^ b) & signBit
	if refInf(a) && refZero(b) || refZero(a) && refInf(b) {
		return nanBits
	}
	if refInf(a) || refInf(b) {
		return sign | infBits
	}
	return nearest(new(big.Int).Mul(signedUnits(a), signedUnits(b)), scale(), sign) | sign
}

func refQuotient(a, b int) int {
	sign := (a ^ b) & signBit
	switch {
	case refInf(a) && refInf(b) || refZero(a) && refZero(b):
		return nanBits
	case refInf(a) || refZero(b):
		return sign | infBits
	case refInf(b):
		return sign
	}
	p := new(big.Int).Mul(unitsOf(a&^signBit), scale())
	return sign | nearest(p, unitsOf(b&^signBit), 0)
}

func refTrunc(a int) (int, bool) {
	if refNaN(a) || refInf(a) {
		return 0, false
	}
	n := new(big.Int).Quo(signedUnits(a), scale())
	if n.Cmp(big.NewInt(-1<<30)) < 0 || n.Cmp(big.NewInt(1<<30-1)) > 0 {
		return 0, false
	}
	return int(n.Int64()), true
}

func refLess(a, b int) bool {
	return !refNaN(a) && !refNaN(b) && signedUnits(a).Cmp(signedUnits(b)) < 0
}

func refEqual(a, b int) bool {
	return !refNaN(a) && !refNaN(b) && signedUnits(a).Cmp(signedUnits(b)) == 0
}

// withSigns is l, and l with the sign.
func withSigns(l []int) []int {
	var all []int
	for _, a := range l {
		all = append(all, a, a^signBit)
	}
	return all
}

// edges are floats of each kind, and those next to where kinds, exponents and roundings change.
func edges() []int {
	return withSigns([]int{
		0, leastSub, 2, 3, mostSub - 1, mostSub, 1 << 51, leastNor, leastNor + 1, leastNor + 2,
		mostNor - 1, mostNor, infBits,
		infBits + 1, nanBits, nanBits - 1, 1<<63 - 1,
		one, one - 1, one + 1, one + 2, one + 1<<52, one - 1<<52, one + 1<<51, one + 1<<51 + 1,
		1 << 61, 1<<61 + 1, 3 << 60, (1023 + 52) << 52, (1023 + 53) << 52, (1023 - 53) << 52, (1023 - 54) << 52,
		(1023-53)<<52 + 1, (1023-54)<<52 + 1, 52 << 52, 53 << 52, 54 << 52, (2046 - 53) << 52, (2046 - 54) << 52,
		0x3fb999999999999a, 0x3fc999999999999a, 0x3fd5555555555555, 0x400921fb54442d18,
	})
}

// spread is a row of bits all over, the same in each run.
type spread uint64

func (s *spread) next() int {
	*s += 0x9e3779b97f4a7c15
	z := uint64(*s)
	z = (z ^ z>>30) * 0xbf58476d1ce4e5b9
	z = (z ^ z>>27) * 0x94d049bb133111eb
	return int(z ^ z>>31)
}

// pair is two floats; every other pair has exponents that lie near each other, so that sums round.
func (s *spread) pair() (int, int) {
	a, b := s.next(), s.next()
	if a&1 == 0 {
		return a, b
	}
	x := a>>52&2047 + (b>>52&127 - 64)
	return a, b&^infBits | min(max(x, 0), 2046)<<52
}

// pairs goes through all pairs of edges, and then through n others.
func pairs(n int, yield func(a, b int)) {
	for _, a := range edges() {
		for _, b := range edges() {
			yield(a, b)
		}
	}
	s := spread(1)
	for range n {
		yield(s.pair())
	}
}
