// Package word is layer 1: see shared/doc/01-word.md.
package word

import "corral/api"

// longest is how many bytes the longest text has, that of -2^31.
const longest = 11

// Sign answers a number, read with a sign.
func Sign(a uint32) int { return int(int32(a)) }

// Of answers a number's rest.
func Of(n int) uint32 { return uint32(n) }

// Do does an operation.
func Do(op int, a, b uint32) (uint32, bool) {
	quotient := false
	switch op {
	case api.Add:
		return a + b, true
	case api.Sub:
		return a - b, true
	case api.Mul:
		return a * b, true
	case api.Div:
		quotient = true
		fallthrough // one division answers both, so its edges are met in one place
	case api.Rem:
		return divide(a, b, quotient)
	case api.And:
		return a & b, true
	case api.Or:
		return a | b, true
	case api.Xor:
		return a ^ b, true
	case api.Shl:
		return a << (b % 32), true
	case api.Shr:
		return a >> (b % 32), true
	case api.Lt:
		return truth(int32(a) < int32(b)), true
	case api.Eq:
		return truth(a == b), true
	}
	return 0, false
}

// Text answers a number in decimal.
func Text(a uint32) string {
	var digits [longest]byte
	below := Sign(a) < 0
	left := a
	if below {
		left = -a // without a sign, so that -2^31 has its opposite too
	}
	at := longest
	for at == longest || left > 0 {
		at--
		digits[at] = byte('0' + left%10)
		left /= 10
	}
	if below {
		at--
		digits[at] = '-'
	}
	return string(digits[at:])
}

// divide answers the quotient of two numbers with signs, or what it leaves.
func divide(a, b uint32, quotient bool) (uint32, bool) {
	if b == 0 {
		return 0, false
	}
	// The language's own division wraps -2^31 by -1 round to -2^31, and 0 left.
	q := int32(a) / int32(b)
	if quotient {
		return uint32(q), true
	}
	return a - uint32(q)*b, true
}

// truth answers 1 for what is so, else 0.
func truth(is bool) uint32 {
	if is {
		return 1
	}
	return 0
}
