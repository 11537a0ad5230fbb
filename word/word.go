// Package word: numbers of 32 bits: see ../../shared/doc/01-word.md.
package word

import "sledge/api"

const wordBits = 32

// Of tells what the op makes of a and b, modulo 2^32.
func Of(op int, a uint32, b uint32) (uint32, api.Errno) {
	switch op {
	case api.OpAdd:
		return a + b, api.OK
	case api.OpSub:
		return a - b, api.OK
	case api.OpAnd:
		return a & b, api.OK
	case api.OpOr:
		return a | b, api.OK
	case api.OpXor:
		return a ^ b, api.OK
	case api.OpShl:
		return a << (b % wordBits), api.OK
	case api.OpShr:
		return a >> (b % wordBits), api.OK
	case api.OpSar:
		return uint32(signed(a) >> (b % wordBits)), api.OK
	case api.OpSlt:
		return truth(signed(a) < signed(b)), api.OK
	case api.OpSltu:
		return truth(a < b), api.OK
	case api.OpEq:
		return truth(a == b), api.OK
	case api.OpMin:
		return uint32(min(signed(a), signed(b))), api.OK
	case api.OpMax:
		return uint32(max(signed(a), signed(b))), api.OK
	case api.OpMul:
		return a * b, api.OK
	case api.OpMulh:
		return uint32((signed(a) * signed(b)) >> wordBits), api.OK
	case api.OpDiv, api.OpRem:
		return divide(op, a, b)
	}
	return 0, api.ErrForm
}

// Has tells whether Of knows the op.
func Has(op int) bool { return op >= api.OpAdd && op <= api.OpRem }

// Fits tells whether n is a signed number of so many bits.
func Fits(n int, bits int) (bool, api.Errno) {
	if !isWidth(bits) {
		return false, api.ErrForm
	}
	half := int64(1) << (bits - 1)
	return int64(n) >= -half && int64(n) < half, api.OK
}

// Cut tells the lowest bits of a signed number that fits them.
func Cut(n int, bits int) (uint32, api.Errno) {
	fits, e := Fits(n, bits)
	if e != api.OK {
		return 0, e
	}
	if !fits {
		return 0, api.ErrRange
	}
	return uint32(uint64(n) & (uint64(1)<<bits - 1)), api.OK
}

// Sign tells the signed number that the lowest bits are.
func Sign(x uint32, bits int) (int, api.Errno) {
	if !isWidth(bits) {
		return 0, api.ErrForm
	}
	// In 64 bits, so that the bound of 32 bits does not wrap round.
	n, bound := int64(x), int64(1)<<bits
	if n >= bound {
		return 0, api.ErrRange
	}
	if n >= bound/2 {
		n -= bound
	}
	return int(n), api.OK
}

func isWidth(bits int) bool { return bits >= 1 && bits <= wordBits }

// signed has 64 bits, so that neither a product of two words nor -2^31 by -1 overflows.
func signed(x uint32) int64 { return int64(int32(x)) }

func truth(is bool) uint32 {
	if is {
		return 1
	}
	return 0
}

func divide(op int, a uint32, b uint32) (uint32, api.Errno) {
	if b == 0 {
		return 0, api.ErrRange
	}
	if op == api.OpDiv {
		return uint32(signed(a) / signed(b)), api.OK
	}
	return uint32(signed(a) % signed(b)), api.OK
}
