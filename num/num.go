// Package num is layer 1: see shared/doc/01-num.md.
package num

import (
	"cmp"
	"math/bits"

	"quittance/api"
)

// mostDigits is how many digits 2^127 has: no Wide has more.
const mostDigits = 39

// Add is a sum.
func Add(a, b int64) (int64, bool) { return Back(Plus(Of(a), Of(b))) }

// Sub is a difference.
func Sub(a, b int64) (int64, bool) { return Back(Minus(Of(a), Of(b))) }

// Mul is a product.
func Mul(a, b int64) (int64, bool) { return Back(Times(a, b)) }

// Neg is a number the other way round.
func Neg(a int64) (int64, bool) { return Sub(0, a) }

// Of is a number, wide.
func Of(a int64) api.Wide { return api.Wide{Hi: a >> 63, Lo: uint64(a)} }

// Plus is a wide sum.
func Plus(a, b api.Wide) api.Wide {
	lo, carry := bits.Add64(a.Lo, b.Lo, 0)
	hi, _ := bits.Add64(uint64(a.Hi), uint64(b.Hi), carry)
	return api.Wide{Hi: int64(hi), Lo: lo}
}

// Minus is a wide difference.
func Minus(a, b api.Wide) api.Wide {
	lo, borrow := bits.Sub64(a.Lo, b.Lo, 0)
	hi, _ := bits.Sub64(uint64(a.Hi), uint64(b.Hi), borrow)
	return api.Wide{Hi: int64(hi), Lo: lo}
}

// Times is a wide product.
func Times(a, b int64) api.Wide {
	hi, lo := bits.Mul64(uint64(a), uint64(b))
	// Without its sign a number below 0 counts for 2^64 more, which leaves the other one in hi once too often.
	return api.Wide{Hi: int64(hi) - ifBelow(a, b) - ifBelow(b, a), Lo: lo}
}

// ifBelow is n, if sign is below 0, else 0.
func ifBelow(sign, n int64) int64 {
	if sign < 0 {
		return n
	}
	return 0
}

// Compare says which of two is greater.
func Compare(a, b api.Wide) int {
	return cmp.Or(cmp.Compare(a.Hi, b.Hi), cmp.Compare(a.Lo, b.Lo))
}

// Sum is that of all.
func Sum(l ...int64) api.Wide {
	var sum api.Wide
	for _, n := range l {
		sum = Plus(sum, Of(n))
	}
	return sum
}

// Back is the way back.
func Back(a api.Wide) (int64, bool) {
	n := int64(a.Lo)
	if Of(n) != a {
		return 0, false
	}
	return n, true
}

// Text is a wide number in decimal.
func Text(a api.Wide) string {
	if a.Hi >= 0 {
		return decimal(uint64(a.Hi), a.Lo)
	}
	// -2^127 has no opposite among Wides: it stays as it is, and is 2^127 where words have no sign.
	up := Minus(api.Wide{}, a)
	return "-" + decimal(uint64(up.Hi), up.Lo)
}

// decimal is hi times 2^64, and lo; at most 2^127.
func decimal(hi, lo uint64) string {
	var digits [mostDigits]byte
	last := mostDigits - 1
	first := last
	for k := range mostDigits {
		var digit byte
		hi, lo, digit = tenth(hi, lo)
		digits[last-k] = '0' + digit
		if digit != 0 {
			first = last - k
		}
	}
	return string(digits[first:])
}

// tenth is the tenth part of hi times 2^64, and lo, in two words, and what is left over.
func tenth(hi, lo uint64) (uint64, uint64, byte) {
	up, over := bits.Div64(0, hi, 10)
	down, digit := bits.Div64(over, lo, 10)
	return up, down, byte(digit)
}
