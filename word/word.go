// Package word is layer 1: numbers of 64 bits: see shared/doc/01-word.md.
package word

import (
	"cmp"

	"swage/api"
)

// Do answers what the operation op makes of a and b.
func Do(op, a, b int) (int, api.Errno) {
	switch op {
	case api.Add:
		return a + b, api.OK
	case api.Sub:
		return a - b, api.OK
	case api.Mul:
		return a * b, api.OK
	case api.Div, api.Rem:
		return divide(op, a, b)
	case api.And:
		return a & b, api.OK
	case api.Or:
		return a | b, api.OK
	case api.Xor:
		return a ^ b, api.OK
	case api.Shl, api.Shr:
		return shift(op, a, b)
	case api.Lt, api.Le, api.Eq, api.Ne:
		return number(compare(op, a, b)), api.OK
	}
	return 0, api.ErrArg
}

// divide stands apart because Go panics at a divisor of 0.
func divide(op, a, b int) (int, api.Errno) {
	if b == 0 {
		return 0, api.ErrDivide
	}
	if op == api.Div {
		return a / b, api.OK
	}
	return a % b, api.OK
}

// shift stands apart because Go panics at a count below 0; counts from 64 on need no care.
func shift(op, a, b int) (int, api.Errno) {
	if b < 0 {
		return 0, api.ErrDivide
	}
	if op == api.Shl {
		return a << b, api.OK
	}
	return a >> b, api.OK
}

// compare tells whether the comparison op holds of a and b.
func compare[T cmp.Ordered](op int, a, b T) bool {
	switch op {
	case api.Lt:
		return a < b
	case api.Le:
		return a <= b
	case api.Eq:
		return a == b
	case api.Ne:
		return a != b
	}
	return false
}

func number(holds bool) int {
	if holds {
		return 1
	}
	return 0
}

// Known tells whether op is an operation.
func Known(op int) bool { return api.Add <= op && op <= api.Ne }

// Wrap answers the number of 8, 16 or 32 bits, signed or not, that is n modulo 2^bits; of other bits n.
func Wrap(n, bits int, signed bool) int {
	if bits != 8 && bits != 16 && bits != 32 {
		return n
	}
	low := n & (1<<bits - 1)
	if signed && low >= 1<<(bits-1) {
		return low - 1<<bits
	}
	return low
}

// Fits tells whether Wrap leaves n as it is.
func Fits(n, bits int, signed bool) bool { return Wrap(n, bits, signed) == n }

// Turned answers the operation that makes of b and a what op makes of a and b, if there is one.
func Turned(op int) (int, bool) {
	switch op {
	case api.Add, api.Mul, api.And, api.Or, api.Xor, api.Eq, api.Ne:
		return op, true
	}
	return 0, false
}

// Fold answers what op makes of a number and itself, if that is the same whatever the number is.
func Fold(op, a int) (int, bool) {
	switch op {
	case api.Sub, api.Xor, api.Lt, api.Ne:
		return 0, true
	case api.Le, api.Eq:
		return 1, true
	}
	return 0, false
}
