package bits

import (
	"math"
	"slices"
	"testing"

	"sledge/api"
	"sledge/isa"
)

// picture shows the bits 25 to 0 of a form's word, as the chapter says them: of which field each is, or that it is 0.
func picture(form int) string {
	switch form {
	case api.FormThree:
		return "DDDDAAAABBBB00000000000000"
	case api.FormTwo:
		return "DDDDAAAA000000000000000000"
	case api.FormAdd:
		return "DDDDAAAA0000IIIIIIIIIIIIII"
	case api.FormLoad:
		return "DDDD0000IIIIIIIIIIIIIIIIII"
	case api.FormStore:
		return "BBBBAAAA0000IIIIIIIIIIIIII"
	case api.FormIn:
		return "DDDD0000000000000000000000"
	case api.FormOut:
		return "0000AAAA000000000000000000"
	case api.FormJump:
		return "00000000TTTTTTTTTTTTTTTTTT"
	case api.FormBranch:
		return "0000AAAA0000TTTTTTTTTTTTTT"
	}
	return "00000000000000000000000000"
}

// model tells a word's instruction by its picture, bit by bit, and whether there is one.
func model(w uint32) (api.Ins, bool) {
	op := int(w >> 26)
	if op > api.OpHalt {
		return api.Ins{}, false
	}
	form, _ := isa.Form(op)
	value, width := map[byte]int{}, map[byte]int{}
	for i, c := range []byte(picture(form)) {
		value[c] = value[c]<<1 | int(w>>(25-i)&1)
		width[c]++
	}
	imm := value['I']
	if width['I'] > 0 && imm >= 1<<(width['I']-1) {
		imm -= 1 << width['I']
	}
	if value['0'] != 0 || value['T'] > 1023 {
		return api.Ins{}, false
	}
	return api.Ins{Op: op, D: value['D'], A: value['A'], B: value['B'], Imm: imm + value['T']}, true
}

// lowBits are what stands below the op: all patterns of at most two bits set, or two clear, each field's edges, and a stride over all.
func lowBits() []uint32 {
	const all = 1<<26 - 1
	l := []uint32{0, all, 1<<14 - 1, 1<<18 - 1, 1023, 1024, 1022}
	for i := range 26 {
		for k := range i + 1 {
			two := uint32(1)<<i | uint32(1)<<k
			l = append(l, two, all&^two)
		}
	}
	for n := uint32(0); n <= all; n += 9973 {
		l = append(l, n)
	}
	for _, n := range slices.Clone(l) {
		l = append(l, n&^(0xf<<22), n&^(0xf<<18), n&^(0xf<<14), n&^(1<<14-1), n&^(0xff<<18), n&^(1<<18-1), n&^(0xf<<14|0x3c00))
	}
	slices.Sort(l)
	return slices.Compact(l)
}

// P4.1, P4.3: of each op's words, and of those that have no op, Ins tells what the pictures do, and Word leads back.
func TestInsIsThePicture(t *testing.T) {
	low := lowBits()
	for op := range uint32(64) {
		found := 0
		for _, n := range low {
			w := op<<26 | n
			want, is := model(w)
			x, e := Ins(w)
			if is != (e == api.OK) || x != want || !is && e != api.ErrBad {
				t.Fatalf("Ins(%#x): %+v, %d, not %+v", w, x, e, want)
			}
			if !is {
				continue
			}
			found++
			if back, e := Word(x); back != w || e != api.OK {
				t.Fatalf("Word(%+v): %#x, %d, not %#x", x, back, e, w)
			}
		}
		if (found > 0) != (op <= api.OpHalt) {
			t.Errorf("op %d: %d words", op, found)
		}
	}
}

// instructions are those of each op that may be with every field at an edge or within.
func instructions() []api.Ins {
	regs, imms := []int{0, 1, 8, 15}, []int{-131072, -131071, -8193, -8192, -1, 0, 1, 1023, 1024, 8191, 8192, 131071}
	var l []api.Ins
	for op := range api.OpHalt + 1 {
		for _, d := range regs {
			for _, a := range regs {
				for _, b := range regs {
					for _, n := range imms {
						if x := (api.Ins{Op: op, D: d, A: a, B: b, Imm: n}); isa.Check(x) == api.OK {
							l = append(l, x)
						}
					}
				}
			}
		}
	}
	return l
}

// P4.3: Ins of Word is it; no two have one word.
func TestNoTwoHaveOneWord(t *testing.T) {
	whose := map[uint32]api.Ins{}
	for _, x := range instructions() {
		w, e := Word(x)
		if e != api.OK {
			t.Fatalf("Word(%+v): %d", x, e)
		}
		if y, two := whose[w]; two {
			t.Errorf("%+v and %+v: %#x", x, y, w)
		}
		whose[w] = x
		if back, e := Ins(w); back != x || e != api.OK {
			t.Errorf("Ins(Word(%+v)): %+v, %d", x, back, e)
		}
	}
	if len(whose) < 34 {
		t.Errorf("%d words", len(whose))
	}
}

// P4.1: words written out, one of each form at least.
func TestWordsWrittenOut(t *testing.T) {
	for _, c := range []struct {
		x api.Ins
		w uint32
	}{
		{api.Ins{}, 0},
		{api.Ins{Op: api.OpSub, D: 1, A: 2, B: 3}, 0b000010_0001_0010_0011_00000000000000},
		{api.Ins{Op: api.OpConj, D: 15, A: 1}, 0b010101_1111_0001_0000_00000000000000},
		{api.Ins{Op: api.OpAddi, D: 1, A: 15, Imm: -8192}, 0b010110_0001_1111_0000_10000000000000},
		{api.Ins{Op: api.OpLi, D: 8, Imm: -1}, 0b010111_1000_0000_111111111111111111},
		{api.Ins{Op: api.OpSt, A: 2, B: 1, Imm: 4}, 0b011001_0001_0010_0000_00000000000100},
		{api.Ins{Op: api.OpIn, D: 5}, 0b011010_0101_0000_0000_00000000000000},
		{api.Ins{Op: api.OpOut, A: 5}, 0b011011_0000_0101_0000_00000000000000},
		{api.Ins{Op: api.OpCall, Imm: 1023}, 0b011111_0000_0000_000000001111111111},
		{api.Ins{Op: api.OpBnz, A: 9, Imm: 512}, 0b011110_0000_1001_0000_00001000000000},
		{api.Ins{Op: api.OpHalt}, 0b100001_0000_0000_0000_00000000000000},
	} {
		if w, e := Word(c.x); w != c.w || e != api.OK {
			t.Errorf("Word(%+v): %#b, %d, not %#b", c.x, w, e, c.w)
		}
		if x, e := Ins(c.w); x != c.x || e != api.OK {
			t.Errorf("Ins(%#b): %+v, %d, not %+v", c.w, x, e, c.x)
		}
	}
}

// P4.1: what may not be, or has a symbol; what may not be is told first.
func TestWordErrors(t *testing.T) {
	for _, c := range []struct {
		x api.Ins
		e api.Errno
	}{
		{api.Ins{Op: -1}, api.ErrForm},
		{api.Ins{Op: api.OpHalt + 1}, api.ErrForm},
		{api.Ins{Op: math.MinInt}, api.ErrForm},
		{api.Ins{Op: math.MaxInt}, api.ErrForm},
		{api.Ins{Op: 1 << 32}, api.ErrForm},
		{api.Ins{D: 1}, api.ErrForm},
		{api.Ins{Imm: 1}, api.ErrForm},
		{api.Ins{Op: api.OpAdd, A: 16}, api.ErrForm},
		{api.Ins{Op: api.OpAdd, B: -1}, api.ErrForm},
		{api.Ins{Op: api.OpAdd, D: 1 << 32}, api.ErrForm},
		{api.Ins{Op: api.OpAddi, Imm: 8192}, api.ErrForm},
		{api.Ins{Op: api.OpAddi, Imm: -8193}, api.ErrForm},
		{api.Ins{Op: api.OpLi, Imm: 131072}, api.ErrForm},
		{api.Ins{Op: api.OpLi, Imm: math.MinInt}, api.ErrForm},
		{api.Ins{Op: api.OpJmp, Imm: 1024}, api.ErrForm},
		{api.Ins{Op: api.OpJmp, Imm: -1}, api.ErrForm},
		{api.Ins{Op: api.OpBz, Imm: math.MaxInt}, api.ErrForm},
		{api.Ins{Sym: "a"}, api.ErrForm},
		{api.Ins{Op: api.OpLi, Sym: "A"}, api.ErrForm},
		{api.Ins{Op: api.OpLi, D: 16, Sym: "a"}, api.ErrForm},
		{api.Ins{Op: api.OpJmp, Imm: 1, Sym: "a"}, api.ErrForm},
		{api.Ins{Op: api.OpLi, D: 15, Sym: "a"}, api.ErrType},
		{api.Ins{Op: api.OpLi, Imm: -131072, Sym: "a"}, api.ErrType},
		{api.Ins{Op: api.OpJmp, Sym: "a"}, api.ErrType},
		{api.Ins{Op: api.OpCall, Sym: "_"}, api.ErrType},
		{api.Ins{Op: api.OpBz, A: 3, Sym: "a"}, api.ErrType},
		{api.Ins{Op: api.OpBnz, Sym: "a"}, api.ErrType},
	} {
		if w, e := Word(c.x); w != 0 || e != c.e {
			t.Errorf("Word(%+v): %#x, %d, not %d", c.x, w, e, c.e)
		}
		if l, e := Words(api.Bundle{c.x}); len(l) != 0 || e != c.e {
			t.Errorf("Words of %+v: %v, %d, not %d", c.x, l, e, c.e)
		}
	}
}

// P4.2: each instruction in each slot: both ways where it may stand, neither elsewhere.
func TestSlots(t *testing.T) {
	for _, x := range instructions() {
		w, _ := Word(x)
		for slot := range 4 {
			var b api.Bundle
			b[slot] = x
			want := make([]uint32, 4)
			want[slot] = w
			l, e := Words(b)
			back, f := Bundle(want...)
			if isa.May(x.Op, slot) {
				if !slices.Equal(l, want) || e != api.OK || back != b || f != api.OK {
					t.Errorf("%+v in %d: %v, %d, %+v, %d", x, slot, l, e, back, f)
				}
			} else if len(l) != 0 || e != api.ErrForm || back != (api.Bundle{}) || f != api.ErrBad {
				t.Errorf("%+v not in %d: %v, %d, %+v, %d", x, slot, l, e, back, f)
			}
		}
	}
}

func full() api.Bundle {
	return api.Bundle{
		{Op: api.OpBz, A: 1, Imm: 7},
		{Op: api.OpCsub, D: 2, A: 3, B: 4},
		{Op: api.OpSt, A: 5, B: 6, Imm: -7},
		{Op: api.OpRem, D: 8, A: 9, B: 10},
	}
}

// P4.2: a bundle with all slots taken, in their order.
func TestFullBundle(t *testing.T) {
	want := []uint32{29<<26 | 1<<18 | 7, 19<<26 | 2<<22 | 3<<18 | 4<<14, 25<<26 | 6<<22 | 5<<18 | 0x3ff9, 17<<26 | 8<<22 | 9<<18 | 10<<14}
	if l, e := Words(full()); !slices.Equal(l, want) || e != api.OK {
		t.Errorf("%#x, %d", l, e)
	}
	if b, e := Bundle(want...); b != full() || e != api.OK {
		t.Errorf("%+v, %d", b, e)
	}
}

// P4.2: a wrong form in any slot is told ahead of a symbol in any other.
func TestFormAheadOfSymbol(t *testing.T) {
	symbol := api.Ins{Op: api.OpLi, Sym: "a"}
	for slot := range 2 {
		b := full()
		b[slot] = symbol
		if l, e := Words(b); len(l) != 0 || e != api.ErrType {
			t.Errorf("symbol in %d: %v, %d", slot, l, e)
		}
		for wrong := range 4 {
			for _, x := range []api.Ins{{Op: api.OpAdd, D: 16}, {Op: 34}, {Op: api.OpHalt, Imm: 1}} {
				c := b
				c[wrong] = x
				if l, e := Words(c); len(l) != 0 || e != api.ErrForm {
					t.Errorf("symbol in %d, %+v in %d: %v, %d", slot, x, wrong, l, e)
				}
			}
		}
	}
	// What may not stand in its slot is of a wrong form, with a symbol too.
	for slot := 2; slot < 4; slot++ {
		b := full()
		b[slot] = symbol
		if l, e := Words(b); len(l) != 0 || e != api.ErrForm {
			t.Errorf("symbol in %d: %v, %d", slot, l, e)
		}
	}
}

// P4.2: too few words, too many, and one that is none.
func TestBundleErrors(t *testing.T) {
	good, _ := Words(full())
	for n := range 9 {
		l := make([]uint32, n)
		copy(l, good)
		if b, e := Bundle(l...); (e == api.OK) != (n == 4) || n != 4 && (b != (api.Bundle{}) || e != api.ErrBad) {
			t.Errorf("%d words: %+v, %d", n, b, e)
		}
	}
	for slot := range 4 {
		for _, w := range []uint32{1, 1 << 25, 34 << 26, math.MaxUint32, 28<<26 | 1024} {
			l := slices.Clone(good)
			l[slot] = w
			if b, e := Bundle(l...); b != (api.Bundle{}) || e != api.ErrBad {
				t.Errorf("%#x in %d: %+v, %d", w, slot, b, e)
			}
		}
	}
}

// R2: what is handed in stays; who writes into an answer changes no later one.
func TestAnswersAreNew(t *testing.T) {
	first, _ := Words(full())
	kept := slices.Clone(first)
	if _, e := Bundle(first...); e != api.OK || !slices.Equal(first, kept) {
		t.Errorf("handed in: %v, %d", first, e)
	}
	first[0] = 7
	_ = append(first[:1], 8)
	if again, _ := Words(full()); !slices.Equal(again, kept) {
		t.Errorf("told: %v", again)
	}
}
