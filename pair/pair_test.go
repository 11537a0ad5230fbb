package pair

import (
	"math"
	"testing"

	"sledge/api"
)

var edges = []int{0, 1, -1, 2, -2, 3, 7, 181, -182, 255, 256, -256, 12345, -23456, 32766, 32767, -32767, -32768}

func pairsOfEdges() []uint32 {
	var all []uint32
	for _, re := range edges {
		for _, im := range edges {
			all = append(all, Make(re, im))
		}
	}
	return all
}

func wrap(n int) int {
	n = ((n % 65536) + 65536) % 65536
	if n >= 32768 {
		n -= 65536
	}
	return n
}

// P2.1: the parts' places, and that they come back.
func TestMakeParts(t *testing.T) {
	for _, c := range []struct {
		re, im int
		x      uint32
	}{{0, 0, 0}, {1, 0, 1}, {0, 1, 0x10000}, {-1, 0, 0xffff}, {0, -1, 0xffff0000}, {-1, -1, 0xffffffff}, {32767, -32768, 0x80007fff}, {32768, 65536, 0x8000}, {-32769, 65535, 0xffff7fff}, {math.MinInt, math.MaxInt, 0xffff0000}, {1<<53 + 1, -(1<<53 + 1), 0xffff0001}} {
		if x := Make(c.re, c.im); x != c.x {
			t.Errorf("Make(%d, %d): %x, not %x", c.re, c.im, x, c.x)
		}
		if re, im := Parts(c.x); re != wrap(c.re) || im != wrap(c.im) {
			t.Errorf("Parts(%x): %d, %d", c.x, re, im)
		}
	}
	for _, re := range edges {
		for _, im := range edges {
			if a, b := Parts(Make(re, im)); a != re || b != im {
				t.Errorf("%d, %d came back as %d, %d", re, im, a, b)
			}
		}
	}
}

// P2.1: sum, difference, product and conjugate against whole numbers.
func TestOf(t *testing.T) {
	for _, a := range pairsOfEdges() {
		for _, b := range pairsOfEdges() {
			p, q := Parts(a)
			r, s := Parts(b)
			for _, c := range []struct{ op, re, im int }{{api.OpCadd, p + r, q + s}, {api.OpCsub, p - r, q - s}, {api.OpCmul, p*r - q*s, p*s + q*r}, {api.OpConj, p, -q}} {
				x, e := Of(c.op, a, b)
				re, im := Parts(x)
				if e != api.OK || re != wrap(c.re) || im != wrap(c.im) {
					t.Fatalf("Of(%d, %x, %x): %d, %d, %v", c.op, a, b, re, im, e)
				}
			}
		}
	}
}

// P2.1: example 1, i times i.
func TestSquareOfI(t *testing.T) {
	i := Make(0, 1)
	if x, e := Of(api.OpCmul, i, i); x != Make(-1, 0) || e != api.OK {
		t.Errorf("%x, %v", x, e)
	}
}

// P2.1: ops that are none of pairs.
func TestOtherOps(t *testing.T) {
	for _, op := range []int{math.MinInt, -1, api.OpNop, api.OpAdd, api.OpMul, api.OpRem, api.OpAddi, api.OpLi, api.OpHalt, api.OpHalt + 1, math.MaxInt} {
		if x, e := Of(op, 0x20001, 0x40003); x != 0 || e != api.ErrForm {
			t.Errorf("Of(%d): %x, %v", op, x, e)
		}
		if Has(op) {
			t.Errorf("Has(%d)", op)
		}
	}
	for _, op := range []int{api.OpCadd, api.OpCsub, api.OpCmul, api.OpConj} {
		if !Has(op) {
			t.Errorf("Has(%d) is false", op)
		}
	}
}

// P2.2: the squares' sum, not cut to 16 or 32 bits.
func TestNorm(t *testing.T) {
	for _, x := range pairsOfEdges() {
		re, im := Parts(x)
		if n := Norm(x); n != re*re+im*im {
			t.Errorf("Norm(%x): %d", x, n)
		}
	}
	if n := Norm(Make(-32768, -32768)); n != 1<<31 {
		t.Errorf("the greatest: %d", n)
	}
}

// P2.3: a number times its conjugate.
func TestTimesConjugate(t *testing.T) {
	for _, x := range pairsOfEdges() {
		c, e := Of(api.OpConj, x, 0xdead)
		if e != api.OK {
			t.Fatal(e)
		}
		y, e := Of(api.OpCmul, x, c)
		re, im := Parts(y)
		if e != api.OK || re != wrap(Norm(x)) || im != 0 {
			t.Errorf("%x: %d, %d, %v", x, re, im, e)
		}
	}
}
