// Package value is layer 1, tagged values: see shared/doc/01-value.md.
package value

import (
	"anamnesis/api"
	"strconv"
)

const leastSmall = -api.MaxSmall - 1

// Int is the value of the SmallInteger n.
func Int(n int) (int, bool) {
	if !isSmall(n) {
		return 0, false
	}
	return n<<1 | 1, true
}

// Ref is the value of the ref of object i.
func Ref(i int) (int, bool) {
	if !isNumber(i) {
		return 0, false
	}
	return i << 1, true
}

// N is the SmallInteger whose value v is.
func N(v int) (int, bool) {
	// Go's shift keeps the sign, and rounds down: so it turns Int round below 0, too.
	n := v >> 1
	if !isOdd(v) || !isSmall(n) {
		return 0, false
	}
	return n, true
}

// At is the number of the object whose ref v is.
func At(v int) (int, bool) {
	i := v >> 1
	if isOdd(v) || !isNumber(i) {
		return 0, false
	}
	return i, true
}

// May tells whether v is a value.
func May(v int) bool {
	if _, ok := N(v); ok {
		return true
	}
	_, ok := At(v)
	return ok
}

// Text tells a value: digits of a SmallInteger, `@` and digits of a ref.
func Text(v int) string {
	if n, ok := N(v); ok {
		return strconv.Itoa(n)
	}
	if i, ok := At(v); ok {
		return "@" + strconv.Itoa(i)
	}
	return ""
}

func isSmall(n int) bool { return leastSmall <= n && n <= api.MaxSmall }

func isNumber(i int) bool { return 0 <= i && i < api.MaxRef }

func isOdd(v int) bool { return v&1 == 1 }
