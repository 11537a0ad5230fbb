package word

import (
	"math"
	"math/big"
	"testing"

	"sledge/api"
)

// edges are words at which signs, halves and shifts turn.
func edges() []uint32 {
	l := []uint32{0, 1, 2, 3, 7, 30, 31, 32, 33, 63, 64, 0xffff, 0x10000, 0x10001, 0x12345678, 0x7ffffffe, 0x7fffffff}
	for _, x := range l {
		l = append(l, -x, ^x)
	}
	return l
}

// modulo tells a number modulo 2^32.
func modulo(n *big.Int) uint32 {
	return uint32(new(big.Int).Mod(n, big.NewInt(1<<32)).Uint64())
}

func signedBig(x uint32) *big.Int {
	n := new(big.Int).SetUint64(uint64(x))
	if x >= 1<<31 {
		n.Sub(n, big.NewInt(1<<32))
	}
	return n
}

func unsignedBig(x uint32) *big.Int { return new(big.Int).SetUint64(uint64(x)) }

func oneIf(is bool) *big.Int {
	if is {
		return big.NewInt(1)
	}
	return big.NewInt(0)
}

// want works out an op by numbers without bounds, as the document says it.
func want(op int, a, b uint32) *big.Int {
	x, y, n := signedBig(a), signedBig(b), new(big.Int)
	power := new(big.Int).Lsh(big.NewInt(1), uint(b%32))
	switch op {
	case api.OpAdd:
		return n.Add(x, y)
	case api.OpSub:
		return n.Sub(x, y)
	case api.OpAnd:
		return n.And(x, y)
	case api.OpOr:
		return n.Or(x, y)
	case api.OpXor:
		return n.Xor(x, y)
	case api.OpShl:
		return n.Mul(x, power)
	case api.OpShr:
		return n.Div(unsignedBig(a), power)
	case api.OpSar:
		return n.Div(x, power)
	case api.OpSlt:
		return oneIf(x.Cmp(y) < 0)
	case api.OpSltu:
		return oneIf(unsignedBig(a).Cmp(unsignedBig(b)) < 0)
	case api.OpEq:
		return oneIf(x.Cmp(y) == 0)
	case api.OpMin, api.OpMax:
		if (x.Cmp(y) < 0) == (op == api.OpMin) {
			return x
		}
		return y
	case api.OpMul:
		return n.Mul(x, y)
	case api.OpMulh:
		return n.Div(n.Mul(x, y), big.NewInt(1<<32))
	case api.OpDiv:
		return n.Quo(x, y)
	}
	return n.Rem(x, y)
}

// P1.1: each op, of all pairs of edges.
func TestOfAllOps(t *testing.T) {
	for op := api.OpAdd; op <= api.OpRem; op++ {
		for _, a := range edges() {
			for _, b := range edges() {
				x, e := Of(op, a, b)
				if b == 0 && (op == api.OpDiv || op == api.OpRem) {
					if x != 0 || e != api.ErrRange {
						t.Errorf("op %d of %d by nought: %d, %d", op, a, x, e)
					}
					continue
				}
				if w := modulo(want(op, a, b)); x != w || e != api.OK {
					t.Errorf("op %d of %#x, %#x: %#x, %d; want %#x", op, a, b, x, e, w)
				}
			}
		}
	}
}

// P1.1: single answers, written out by hand.
func TestOfByHand(t *testing.T) {
	const low, minus = uint32(0x80000000), uint32(0xffffffff)
	for i, c := range []struct {
		op      int
		a, b, w uint32
	}{
		{api.OpDiv, minus - 6, 2, minus - 2},
		{api.OpRem, minus - 6, 2, minus},
		{api.OpRem, 7, minus - 1, 1},
		{api.OpDiv, low, minus, low},
		{api.OpRem, low, minus, 0},
		{api.OpSar, low, 32, low},
		{api.OpSar, low, 63, minus},
		{api.OpShr, low, 63, 1},
		{api.OpShl, 1, minus, low},
		{api.OpMulh, minus, minus, 0},
		{api.OpMulh, low, low, 1 << 30},
		{api.OpSlt, low, 0, 1},
		{api.OpSltu, low, 0, 0},
		{api.OpMin, low, 1, low},
		{api.OpMax, low, 1, 1},
	} {
		if x, e := Of(c.op, c.a, c.b); x != c.w || e != api.OK {
			t.Errorf("%d: %#x, %d; want %#x", i, x, e, c.w)
		}
	}
}

// P1.1: other ops, also where b is nought: ErrForm, and Has tells no.
func TestOfOtherOps(t *testing.T) {
	others := []int{math.MinInt, -api.OpAdd, -1, api.OpNop, math.MaxInt, 1<<32 + api.OpAdd}
	for op := api.OpRem + 1; op < 300; op++ {
		others = append(others, op)
	}
	for _, op := range others {
		for _, b := range []uint32{0, 1} {
			if x, e := Of(op, 6, b); x != 0 || e != api.ErrForm {
				t.Errorf("op %d: %d, %d", op, x, e)
			}
		}
		if Has(op) {
			t.Errorf("has %d", op)
		}
	}
}

// P1.1: Has tells the seventeen.
func TestHas(t *testing.T) {
	count := 0
	for op := api.OpAdd; op <= api.OpRem; op++ {
		if Has(op) {
			count++
		}
	}
	if count != 17 {
		t.Errorf("%d ops", count)
	}
}

// P1.2: the numbers around both ends of each width.
func TestWidths(t *testing.T) {
	for bits := 1; bits <= 32; bits++ {
		half := 1 << (bits - 1)
		for _, n := range []int{-half, -half + 1, -1, 0, half - 1} {
			if n < -half || n >= half {
				continue
			}
			fits, e := Fits(n, bits)
			x, f := Cut(n, bits)
			w := uint32(n)
			if bits < 32 {
				w = uint32((n + 2*half) % (2 * half))
			}
			if !fits || e != api.OK || x != w || f != api.OK {
				t.Errorf("%d of %d bits: %v, %d, %#x, %d; want %#x", n, bits, fits, e, x, f, w)
			}
		}
		for _, n := range []int{-half - 1, half, 2 * half, -2*half - 1, math.MaxInt, math.MinInt, 1 << 32, -1 << 32, 1<<32 + 1<<40} {
			fits, e := Fits(n, bits)
			x, f := Cut(n, bits)
			if fits || e != api.OK || x != 0 || f != api.ErrRange {
				t.Errorf("%d of %d bits: %v, %d, %#x, %d", n, bits, fits, e, x, f)
			}
		}
	}
}

// P1.2: Sign at both halves of each width, and of words with bits beyond it.
func TestSign(t *testing.T) {
	for bits := 1; bits <= 32; bits++ {
		half := 1 << (bits - 1)
		for x, w := range map[uint32]int{
			0:                  0,
			uint32(half - 1):   half - 1,
			uint32(half):       -half,
			uint32(2*half - 1): -1,
		} {
			if n, e := Sign(x, bits); n != w || e != api.OK {
				t.Errorf("%#x of %d bits: %d, %d; want %d", x, bits, n, e, w)
			}
		}
		for at := bits; at < 32; at++ {
			if n, e := Sign(1<<at, bits); n != 0 || e != api.ErrRange {
				t.Errorf("bit %d of %d bits: %d, %d", at, bits, n, e)
			}
		}
	}
}

// P1.2: of no width all three tell ErrForm, ahead of ErrRange.
func TestNoWidth(t *testing.T) {
	for _, bits := range []int{math.MinInt, -32, -1, 0, 33, 63, 64, 65, 1<<32 + 8, math.MaxInt} {
		for _, n := range []int{0, -1, math.MaxInt, math.MinInt} {
			if fits, e := Fits(n, bits); fits || e != api.ErrForm {
				t.Errorf("Fits(%d, %d): %v, %d", n, bits, fits, e)
			}
			if x, e := Cut(n, bits); x != 0 || e != api.ErrForm {
				t.Errorf("Cut(%d, %d): %d, %d", n, bits, x, e)
			}
			if s, e := Sign(uint32(n), bits); s != 0 || e != api.ErrForm {
				t.Errorf("Sign(%d, %d): %d, %d", n, bits, s, e)
			}
		}
	}
}

// P1.3: Sign of Cut is the number: all of the small widths, the edges of the others.
func TestSignOfCut(t *testing.T) {
	for bits := 1; bits <= 32; bits++ {
		half := 1 << (bits - 1)
		step := max(1, half/512)
		for n := -half; n < half; n += step {
			x, e := Cut(n, bits)
			s, f := Sign(x, bits)
			if s != n || e != api.OK || f != api.OK {
				t.Errorf("%d of %d bits: %#x, %d; %d, %d", n, bits, x, e, s, f)
			}
		}
	}
}

// P1.3: div times b and rem are a, and rem has a's sign or is nought.
func TestDivAndRem(t *testing.T) {
	for _, a := range edges() {
		for _, b := range edges() {
			if b == 0 {
				continue
			}
			div, _ := Of(api.OpDiv, a, b)
			rem, _ := Of(api.OpRem, a, b)
			times, _ := Of(api.OpMul, div, b)
			if sum, _ := Of(api.OpAdd, times, rem); sum != a {
				t.Errorf("%#x by %#x: %#x, %#x", a, b, div, rem)
			}
			if rem != 0 && (int32(rem) < 0) != (int32(a) < 0) {
				t.Errorf("%#x by %#x: rem %#x", a, b, rem)
			}
		}
	}
}
