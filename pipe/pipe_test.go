package pipe

import (
	"fmt"
	"maps"
	"math"
	"slices"
	"testing"

	"sledge/api"
	"sledge/isa"
	"sledge/seq"
)

const minus = ^uint32(0)

// start is a state in the midst of a run: each register, word of memory and input has a value of its own.
func start(t *testing.T) api.State {
	t.Helper()
	s, e := seq.New(50, 51, 52)
	if e != api.OK {
		t.Fatalf("New: %d", e)
	}
	for i := range s.Regs {
		s.Regs[i] = uint32(100 + i)
	}
	for i := range s.Mem {
		s.Mem[i] = uint32(1000 + i)
	}
	s.Taken, s.Out, s.PC, s.Stack = 1, []uint32{7, 8}, 5, []int{3, 9}
	return s
}

// busy is such a state with results on their way, and a jump.
func busy(t *testing.T) api.State {
	t.Helper()
	s := start(t)
	s.Fly = []api.Write{{Reg: 12, Value: 70, Left: 2}, {Reg: 13, Value: 71}, {Reg: 14, Value: 72, Left: 1}, {Reg: 13, Value: 73}, {Reg: 12, Value: 74, Left: 4}}
	s.Jump, s.Delay = 30, 2
	return s
}

// landed is what (1) of a cycle makes of busy.
func landed(t *testing.T) api.State {
	t.Helper()
	s := busy(t)
	s.Regs[13] = 73
	s.Fly = []api.Write{{Reg: 12, Value: 70, Left: 1}, {Reg: 14, Value: 72}, {Reg: 12, Value: 74, Left: 3}}
	return s
}

// code has the bundle at place 5, and others around it that would be seen.
func code(b api.Bundle) []api.Bundle {
	c := slices.Repeat([]api.Bundle{{2: {Op: api.OpOut, A: 15}}}, 10)
	c[5] = b
	return c
}

// alone is a bundle with x where it may stand last, of nops else.
func alone(t *testing.T, x api.Ins) (b api.Bundle) {
	t.Helper()
	l, e := isa.Slots(x.Op)
	if e != api.OK {
		t.Fatalf("op %d: %d", x.Op, e)
	}
	b[l[len(l)-1]] = x
	return b
}

// show tells a state in full; a nil list and an empty one are one.
func show(s api.State) string { return fmt.Sprintf("%+v", s) }

func isZero(s api.State) bool { return show(s) == show(api.State{}) }

// instruction has the operands of the op's form; the rest is nought.
func instruction(op, d, a, b, n int) api.Ins {
	x := api.Ins{Op: op}
	form, _ := isa.Form(op)
	switch form {
	case api.FormThree:
		x.D, x.A, x.B = d, a, b
	case api.FormTwo:
		x.D, x.A = d, a
	case api.FormAdd:
		x.D, x.A, x.Imm = d, a, n
	case api.FormLoad:
		x.D, x.Imm = d, n
	case api.FormStore:
		x.A, x.B, x.Imm = a, b, n
	case api.FormIn:
		x.D = d
	case api.FormOut:
		x.A = a
	case api.FormJump:
		x.Imm = n
	case api.FormBranch:
		x.A, x.Imm = a, n
	}
	return x
}

// stepOf tells what seq makes of one instruction that is no jump; what flies and jumps is as in s.
func stepOf(t *testing.T, x api.Ins, s api.State) api.State {
	t.Helper()
	bare := s
	bare.Fly, bare.Jump, bare.Delay, bare.PC = nil, 0, 0, 0
	y, e := seq.Step([]api.Ins{x}, bare)
	if e != api.OK {
		t.Fatalf("%+v: %d", x, e)
	}
	y.Fly, y.Jump, y.Delay, y.PC = slices.Clone(s.Fly), s.Jump, s.Delay, s.PC
	return y
}

// P6.1: each op that has a result: what seq tells of it flies, behind the others, with its latency less 1, and all else is as it was.
func TestResultsFly(t *testing.T) {
	count := 0
	for op := range api.OpHalt + 1 {
		for _, a := range []uint32{0, 1, 120, 0x00030002, 0x7fffffff, 1 << 31, minus - 1} {
			for _, n := range []int{-1, 0, 135, 8191, -8192} {
				x := instruction(op, 4, 2, 3, n)
				if _, e := isa.Writes(instruction(op, 4, 2, 3, 0)); e != api.OK || isa.Ends(op) {
					continue
				}
				s, now := busy(t), landed(t)
				s.Regs[2], now.Regs[2] = a, a
				want := stepOf(t, x, now)
				if want.Stop == api.StopNone {
					latency, _ := isa.Latency(op)
					want.Fly = append(want.Fly, api.Write{Reg: 4, Value: want.Regs[4], Left: latency - 1})
					want.PC, want.Delay = 6, 1
				}
				want.Regs[4] = 104
				if y, e := Cycle(code(alone(t, x)), s); show(y) != show(want) || e != api.OK || Check(y) != api.OK {
					t.Errorf("%+v of %#x: %+v, %d; want %+v", x, a, y, e, want)
				}
				count++
			}
		}
	}
	if count != 25*7*5 {
		t.Errorf("%d results", count)
	}
}

// P6.1: a result is there as many cycles later as its op's latency, not one ahead.
func TestLatency(t *testing.T) {
	for op, late := range map[int]int{api.OpAdd: 1, api.OpSltu: 1, api.OpAddi: 1, api.OpLi: 1, api.OpCadd: 1, api.OpCsub: 1, api.OpConj: 1, api.OpMul: 2, api.OpMulh: 2, api.OpIn: 2, api.OpLd: 3, api.OpCmul: 3, api.OpDiv: 4, api.OpRem: 4} {
		c := slices.Repeat([]api.Bundle{alone(t, api.Ins{Op: api.OpOut, A: 4})}, 7)
		c[0] = alone(t, instruction(op, 4, 2, 3, 5))
		s := start(t)
		s.Regs[2], s.PC = 3, 0
		now := stepOf(t, instruction(op, 4, 2, 3, 5), s).Regs[4]
		want := []uint32{7, 8}
		for i := 1; i < len(c); i++ {
			if i < late {
				want = append(want, 104)
			} else {
				want = append(want, now)
			}
		}
		if x, n, e := Run(c, s, 7); !slices.Equal(x.Out, want) || n != 7 || e != api.OK {
			t.Errorf("op %d: %v, %d, %d; want %v", op, x.Out, n, e, want)
		}
	}
}

// P6.1: results of one bundle fly in the order of its slots; of a register the last one to be written stays.
func TestResultsOfOneBundle(t *testing.T) {
	b := api.Bundle{
		{Op: api.OpLi, D: 4, Imm: -9},
		{Op: api.OpAddi, D: 4, A: 5, Imm: 1},
		{Op: api.OpIn, D: 5},
		{Op: api.OpCmul, D: 2, A: 4, B: 4},
	}
	want := start(t)
	want.Fly = []api.Write{{Reg: 4, Value: minus - 8}, {Reg: 4, Value: 106}, {Reg: 5, Value: 51, Left: 1}, {Reg: 2, Value: 104 * 104, Left: 2}}
	want.Taken, want.PC = 2, 6
	x, e := Cycle(code(b), start(t))
	if show(x) != show(want) || e != api.OK {
		t.Errorf("%+v, %d", x, e)
	}
	want.Out, want.PC = append(want.Out, 115), 7
	want.Regs[4] = 106
	want.Fly = []api.Write{{Reg: 5, Value: 51}, {Reg: 2, Value: 104 * 104, Left: 1}}
	if x, e := Cycle(code(b), x); show(x) != show(want) || e != api.OK {
		t.Errorf("%+v, %d", x, e)
	}
}

// P6.1: the operands of all slots are the registers behind (1), whatever the slots ahead do.
func TestOperands(t *testing.T) {
	s := start(t)
	s.Fly = []api.Write{{Reg: 1, Value: 6}, {Reg: 2, Value: 9, Left: 1}}
	b := api.Bundle{
		{Op: api.OpAddi, D: 2, A: 1, Imm: 1},
		{Op: api.OpAddi, D: 1, A: 2, Imm: 1},
		{Op: api.OpSt, A: 1, B: 2, Imm: 1},
		{Op: api.OpMul, D: 1, A: 1, B: 2},
	}
	want := start(t)
	want.Regs[1], want.Mem[7], want.PC = 6, 102, 6
	want.Fly = []api.Write{{Reg: 2, Value: 9}, {Reg: 2, Value: 7}, {Reg: 1, Value: 103}, {Reg: 1, Value: 6 * 102, Left: 1}}
	if x, e := Cycle(code(b), s); show(x) != show(want) || e != api.OK {
		t.Errorf("%+v, %d", x, e)
	}
}

// P6.1: what has no result is done at once.
func TestDoneAtOnce(t *testing.T) {
	for i, c := range []struct {
		x      api.Ins
		before func(s *api.State)
		now    func(s *api.State)
	}{
		{api.Ins{}, func(s *api.State) {}, func(s *api.State) {}},
		{api.Ins{Op: api.OpOut, A: 13}, func(s *api.State) {}, func(s *api.State) { s.Out = []uint32{7, 8, 73} }},
		{api.Ins{Op: api.OpOut}, func(s *api.State) { s.Out = make([]uint32, 200) }, func(s *api.State) { s.Out = append(make([]uint32, 200), 100) }},
		{api.Ins{Op: api.OpSt, A: 13, B: 13, Imm: 2}, func(s *api.State) {}, func(s *api.State) { s.Mem[75] = 73 }},
		{api.Ins{Op: api.OpSt, A: 1, B: 12, Imm: -101}, func(s *api.State) {}, func(s *api.State) { s.Mem[0] = 112 }},
		{api.Ins{Op: api.OpSt, A: 1, B: 2, Imm: 154}, func(s *api.State) {}, func(s *api.State) { s.Mem[255] = 102 }},
		{api.Ins{Op: api.OpSt, A: 1, B: 2, Imm: 1}, func(s *api.State) { s.Regs[1] = minus }, func(s *api.State) { s.Mem[0] = 102 }},
	} {
		s, want := busy(t), landed(t)
		c.before(&s)
		c.before(&want)
		want.PC, want.Delay = 6, 1
		c.now(&want)
		if x, e := Cycle(code(alone(t, c.x)), s); show(x) != show(want) || e != api.OK {
			t.Errorf("%d, %+v: %+v, %d", i, c.x, x, e)
		}
	}
}

// P6.1: inputs are taken at once, though they come later; behind the last one 0, and none is taken.
func TestInputs(t *testing.T) {
	for taken, want := range []uint32{50, 51, 52, 0} {
		s := start(t)
		s.Taken = taken
		x, e := Cycle(code(alone(t, api.Ins{Op: api.OpIn, D: 4})), s)
		if x.Taken != min(taken+1, 3) || !slices.Equal(x.Fly, []api.Write{{Reg: 4, Value: want, Left: 1}}) || x.Regs[4] != 104 || e != api.OK {
			t.Errorf("%d taken: %+v, %d", taken, x, e)
		}
	}
	s := start(t)
	s.In, s.Taken = nil, 0
	if x, e := Cycle(code(alone(t, api.Ins{Op: api.OpIn, D: 4})), s); x.Taken != 0 || len(x.Fly) != 1 || x.Fly[0].Value != 0 || e != api.OK {
		t.Errorf("no input: %+v, %d", x, e)
	}
}

// P6.1: what stops, of a bundle whose other slots would be seen: those ahead have done theirs, those behind nothing; what flies, the place and the delay stay.
func TestStops(t *testing.T) {
	li0, li1 := api.Ins{Op: api.OpLi, D: 4, Imm: 11}, api.Ins{Op: api.OpLi, D: 4, Imm: 12}
	out, mul := api.Ins{Op: api.OpOut, A: 1}, api.Ins{Op: api.OpMul, D: 5, A: 1, B: 1}
	fly := func(s *api.State, n ...int) {
		for _, v := range n {
			s.Fly = append(s.Fly, api.Write{Reg: 4, Value: uint32(v)})
		}
	}
	none := func(s *api.State) {}
	for i, c := range []struct {
		b      api.Bundle
		before func(s *api.State)
		now    func(s *api.State)
	}{
		{api.Bundle{li0, li1, out, {Op: api.OpDiv, D: 5, A: 1, B: 2}}, func(s *api.State) { s.Regs[2] = 0 }, func(s *api.State) { s.Out, s.Stop = append(s.Out, 101), api.StopDiv; fly(s, 11, 12) }},
		{api.Bundle{li0, {}, {Op: api.OpIn, D: 6}, {Op: api.OpRem, D: 5, A: 1, B: 2}}, func(s *api.State) { s.Regs[2] = 0 }, func(s *api.State) {
			s.Taken, s.Stop = 2, api.StopDiv
			fly(s, 11)
			s.Fly = append(s.Fly, api.Write{Reg: 6, Value: 51, Left: 1})
		}},
		{api.Bundle{li0, li1, {Op: api.OpLd, D: 6, A: 0, Imm: 156}, mul}, none, func(s *api.State) { s.Stop = api.StopMem; fly(s, 11, 12) }},
		{api.Bundle{{}, li1, {Op: api.OpLd, D: 6, A: 0, Imm: -101}, {Op: api.OpDiv, D: 5}}, none, func(s *api.State) { s.Stop = api.StopMem; fly(s, 12) }},
		{api.Bundle{li0, {}, {Op: api.OpSt, A: 0, B: 3, Imm: 156}, mul}, none, func(s *api.State) { s.Stop = api.StopMem; fly(s, 11) }},
		{api.Bundle{li0, {}, {Op: api.OpSt, A: 2, B: 3}, mul}, func(s *api.State) { s.Regs[2] = minus }, func(s *api.State) { s.Stop = api.StopMem; fly(s, 11) }},
		{api.Bundle{{Op: api.OpRet}, li1, out, mul}, func(s *api.State) { s.Stack = nil }, func(s *api.State) { s.Stop = api.StopStack }},
		{api.Bundle{{Op: api.OpCall, Imm: 3}, li1, out, mul}, func(s *api.State) { s.Stack = make([]int, 16) }, func(s *api.State) { s.Stop = api.StopStack }},
		{api.Bundle{{Op: api.OpJmp, Imm: 3}, li1, out, {Op: api.OpRem}}, func(s *api.State) { s.Regs[0] = 0 }, func(s *api.State) {
			s.Out, s.Stop, s.Jump, s.Delay = append(s.Out, 101), api.StopDiv, 3, 2
			fly(s, 12)
		}},
		{api.Bundle{{Op: api.OpCall, Imm: 3}, {}, {Op: api.OpLd, Imm: -1}, mul}, func(s *api.State) { s.Regs[0] = 0 }, func(s *api.State) { s.Stack, s.Stop, s.Jump, s.Delay = []int{3, 9, 8}, api.StopMem, 3, 2 }},
		{api.Bundle{{Op: api.OpRet}, {}, {Op: api.OpSt, Imm: 200}, mul}, none, func(s *api.State) { s.Stack, s.Stop, s.Jump, s.Delay = []int{3}, api.StopMem, 9, 2 }},
		{api.Bundle{{Op: api.OpBz, Imm: 3}, {}, {Op: api.OpSt, Imm: 200}, mul}, func(s *api.State) { s.Delay = 1 }, func(s *api.State) { s.Stop = api.StopMem }},
	} {
		s, want := busy(t), landed(t)
		s.Delay, want.Delay = 1, 1
		c.before(&s)
		c.before(&want)
		c.now(&want)
		x, n, e := Run(code(c.b), s, 10)
		if show(x) != show(want) || n != 1 || e != api.OK || Check(x) != api.OK {
			t.Errorf("%d: %+v, %d, %d; want %+v", i, x, n, e, want)
		}
	}
}

// P6.1: whether it stops hangs on the registers behind (1), not on what still flies.
func TestStopsByWhatLanded(t *testing.T) {
	for i, c := range []struct {
		x    api.Ins
		fly  api.Write
		stop int
	}{
		{api.Ins{Op: api.OpDiv, D: 1, A: 2, B: 3}, api.Write{Reg: 3}, api.StopDiv},
		{api.Ins{Op: api.OpDiv, D: 1, A: 2, B: 3}, api.Write{Reg: 3, Left: 1}, api.StopNone},
		{api.Ins{Op: api.OpLd, D: 1, A: 2}, api.Write{Reg: 2, Value: 256}, api.StopMem},
		{api.Ins{Op: api.OpLd, D: 1, A: 2}, api.Write{Reg: 2, Value: 256, Left: 1}, api.StopNone},
		{api.Ins{Op: api.OpSt, A: 2}, api.Write{Reg: 2, Value: 256}, api.StopMem},
		{api.Ins{Op: api.OpSt, A: 2}, api.Write{Reg: 2, Value: 256, Left: 1}, api.StopNone},
	} {
		s := start(t)
		s.Fly = []api.Write{c.fly}
		if x, e := Cycle(code(alone(t, c.x)), s); x.Stop != c.stop || e != api.OK {
			t.Errorf("%d: %+v, %d", i, x, e)
		}
	}
}

// P6.1: behind the last bundle: what is there is written, the rest comes nearer, no more.
func TestNoCode(t *testing.T) {
	for _, c := range [][]api.Bundle{nil, {}, make([]api.Bundle, 4), make([]api.Bundle, 5)} {
		for _, pc := range []int{5, 6, 1024} {
			for delay := range 3 {
				s, want := busy(t), landed(t)
				s.PC, s.Delay, want.PC, want.Delay, want.Stop = pc, delay, pc, delay, api.StopCode
				x, n, e := Run(c, s, 9)
				if show(x) != show(want) || n != 1 || e != api.OK {
					t.Errorf("%d bundles, at %d: %+v, %d, %d", len(c), pc, x, n, e)
				}
			}
		}
	}
}

// P6.1: by halt all that flies is written, those with less Left first, of one Left in order; the place, the jump and its delay stay.
func TestHalt(t *testing.T) {
	s := start(t)
	s.Jump, s.Delay = 30, 1
	for _, w := range [][3]int{{1, 20, 3}, {2, 21, 4}, {1, 22, 1}, {3, 23, 0}, {2, 24, 4}, {4, 25, 1}, {4, 26, 1}, {1, 27, 2}, {3, 28, 1}, {5, 29, 0}, {5, 30, 0}} {
		s.Fly = append(s.Fly, api.Write{Reg: w[0], Value: uint32(w[1]), Left: w[2]})
	}
	want := start(t)
	want.Jump, want.Delay, want.Stop = 30, 1, api.StopHalt
	want.Regs[1], want.Regs[2], want.Regs[3], want.Regs[4], want.Regs[5] = 20, 24, 28, 26, 30
	b := api.Bundle{{Op: api.OpHalt}, {Op: api.OpLi, D: 6}, {Op: api.OpOut}, {Op: api.OpDiv, D: 7, B: 7}}
	x, n, e := Run(code(b), s, 9)
	if show(x) != show(want) || n != 1 || e != api.OK {
		t.Errorf("%+v, %d, %d", x, n, e)
	}
}

// P6.1: jumps: which are taken, where they lead, what the returns are; two bundles more are done.
func TestJumps(t *testing.T) {
	for i, c := range []struct {
		x      api.Ins
		taken  bool
		target int
		stack  []int
	}{
		{api.Ins{Op: api.OpJmp, Imm: 20}, true, 20, []int{3, 9}},
		{api.Ins{Op: api.OpJmp, Imm: 0}, true, 0, []int{3, 9}},
		{api.Ins{Op: api.OpJmp, Imm: 1023}, true, 1023, []int{3, 9}},
		{api.Ins{Op: api.OpJmp, Imm: 5}, true, 5, []int{3, 9}},
		{api.Ins{Op: api.OpBz, A: 1, Imm: 20}, true, 20, []int{3, 9}},
		{api.Ins{Op: api.OpBz, A: 2, Imm: 20}, false, 0, []int{3, 9}},
		{api.Ins{Op: api.OpBnz, A: 1, Imm: 20}, false, 0, []int{3, 9}},
		{api.Ins{Op: api.OpBnz, A: 2, Imm: 20}, true, 20, []int{3, 9}},
		{api.Ins{Op: api.OpBnz, A: 3, Imm: 20}, true, 20, []int{3, 9}},
		{api.Ins{Op: api.OpCall, Imm: 20}, true, 20, []int{3, 9, 8}},
		{api.Ins{Op: api.OpRet}, true, 9, []int{3}},
	} {
		for delay := range 3 {
			s := start(t)
			s.Regs[1], s.Regs[2] = 0, 1
			// What flies to the register that is asked is not there yet.
			s.Fly = []api.Write{{Reg: 1, Value: 1, Left: 4}, {Reg: 2, Left: 4}, {Reg: 3, Value: 1 << 31}}
			s.Jump, s.Delay = 33, delay
			want := s
			want.Regs, want.Stack = slices.Clone(s.Regs), c.stack
			want.Fly = []api.Write{{Reg: 1, Value: 1, Left: 3}, {Reg: 2, Left: 3}}
			want.Regs[3], want.PC = 1<<31, 6
			switch {
			case c.taken:
				want.Jump, want.Delay = c.target, 2
			case delay == 2:
				want.Delay = 1
			case delay == 1:
				want.PC, want.Jump, want.Delay = 33, 0, 0
			}
			if x, e := Cycle(code(api.Bundle{c.x}), s); show(x) != show(want) || e != api.OK || Check(x) != api.OK {
				t.Errorf("%d, delay %d: %+v, %d; want %+v", i, delay, x, e, want)
			}
		}
	}
}

// places tells where the cycles of a run begin.
func places(t *testing.T, c []api.Bundle, s api.State, n int) (l []int) {
	t.Helper()
	for range n {
		if s.Stop != api.StopNone {
			break
		}
		l = append(l, s.PC)
		x, e := Cycle(c, s)
		if e != api.OK {
			t.Fatalf("%d", e)
		}
		s = x
	}
	return l
}

// P6.1: which bundles are done around jumps, and around jumps in the delays of others.
func TestPlaces(t *testing.T) {
	type jumps map[int]api.Ins
	jmp := func(n int) api.Ins { return api.Ins{Op: api.OpJmp, Imm: n} }
	bz, bnz, halt := api.Ins{Op: api.OpBz, Imm: 11}, api.Ins{Op: api.OpBnz, Imm: 11}, api.Ins{Op: api.OpHalt}
	for i, c := range []struct {
		c    jumps
		want []int
	}{
		{jumps{0: jmp(5), 6: halt}, []int{0, 1, 2, 5, 6}},
		{jumps{0: jmp(3), 4: halt}, []int{0, 1, 2, 3, 4}},
		{jumps{0: jmp(0)}, []int{0, 1, 2, 0, 1, 2, 0, 1, 2, 0}},
		{jumps{0: jmp(5), 1: jmp(7), 8: halt}, []int{0, 1, 2, 3, 7, 8}},
		{jumps{0: jmp(5), 2: jmp(7), 8: halt}, []int{0, 1, 2, 3, 4, 7, 8}},
		{jumps{0: jmp(9), 1: jmp(9), 2: jmp(9), 3: jmp(7), 8: halt}, []int{0, 1, 2, 3, 4, 5, 7, 8}},
		{jumps{0: jmp(5), 1: bz, 5: halt, 12: halt}, []int{0, 1, 2, 3, 11, 12}},
		{jumps{0: jmp(5), 1: bnz, 2: bnz, 6: halt}, []int{0, 1, 2, 5, 6}},
		{jumps{0: jmp(5), 1: halt}, []int{0, 1}},
		{jumps{0: jmp(5), 2: halt}, []int{0, 1, 2}},
		{jumps{0: {Op: api.OpCall, Imm: 10}, 4: halt, 10: {Op: api.OpRet}}, []int{0, 1, 2, 10, 11, 12, 3, 4}},
		{jumps{0: {Op: api.OpCall, Imm: 10}, 1: {Op: api.OpRet}, 4: halt}, []int{0, 1, 2, 3, 3, 4}},
		{jumps{14: halt}, []int{0, 1, 2, 3, 4, 5, 6, 7, 8, 9}},
		{jumps{0: jmp(15)}, []int{0, 1, 2, 15}},
		{jumps{0: jmp(1000)}, []int{0, 1, 2, 1000}},
	} {
		code := make([]api.Bundle, 15)
		for at, x := range c.c {
			code[at][0] = x
		}
		s, _ := seq.New()
		if l := places(t, code, s, 10); !slices.Equal(l, c.want) {
			t.Errorf("%d: %v, not %v", i, l, c.want)
		}
	}
}

// P6.1: a call's return is behind its delay, and never behind all code that may be.
func TestReturns(t *testing.T) {
	c := slices.Repeat([]api.Bundle{{{Op: api.OpCall, Imm: 7}}}, 1024)
	for at, want := range map[int]int{0: 3, 1: 4, 1019: 1022, 1020: 1023, 1021: 1024, 1022: 1024, 1023: 1024} {
		s := start(t)
		s.PC = at
		x, e := Cycle(c, s)
		if !slices.Equal(x.Stack, []int{3, 9, want}) || x.PC != at+1 || x.Jump != 7 || x.Delay != 2 || Check(x) != api.OK || e != api.OK {
			t.Errorf("call at %d: %+v, %d", at, x, e)
		}
	}
	s := start(t)
	s.Stack = make([]int, 15)
	if x, e := Cycle(c, s); len(x.Stack) != 16 || x.Stop != api.StopNone || e != api.OK {
		t.Errorf("%+v, %d", x, e)
	}
	s.Stack = []int{1024}
	if x, e := Cycle(code(api.Bundle{{Op: api.OpRet}}), s); len(x.Stack) != 0 || x.Jump != 1024 || e != api.OK {
		t.Errorf("%+v, %d", x, e)
	}
	s.Jump, s.Delay = 1024, 1
	if x, e := Cycle(code(api.Bundle{}), s); x.PC != 1024 || x.Jump != 0 || x.Delay != 0 || e != api.OK {
		t.Errorf("%+v, %d", x, e)
	}
}

// P6.1: of a state that has stopped, in whatever way, nothing is done.
func TestStoppedStays(t *testing.T) {
	for stop := api.StopHalt; stop <= api.StopHazard; stop++ {
		for _, c := range [][]api.Bundle{nil, code(alone(t, api.Ins{Op: api.OpLi, D: 1}))} {
			s := busy(t)
			s.Stop = stop
			x, e := Cycle(c, s)
			y, n, f := Run(c, s, api.MaxSteps)
			if show(x) != show(s) || show(y) != show(s) || n != 0 || e != api.OK || f != api.OK {
				t.Errorf("stop %d: %+v, %d, %+v, %d, %d", stop, x, e, y, n, f)
			}
		}
	}
}

// variant is a state with one thing changed, and whether it still may be.
type variant struct {
	name string
	s    api.State
	is   bool
}

func variants(t *testing.T) []variant {
	t.Helper()
	var l []variant
	add := func(name string, is bool, do func(s *api.State)) {
		s := start(t)
		do(&s)
		l = append(l, variant{name, s, is})
	}
	add("as it is", true, func(s *api.State) {})
	for n, is := range map[int]bool{0: false, 15: false, 16: true, 17: false} {
		add(fmt.Sprint("registers ", n), is, func(s *api.State) { s.Regs = make([]uint32, n) })
	}
	for n, is := range map[int]bool{0: false, 255: false, 256: true, 257: false} {
		add(fmt.Sprint("memory ", n), is, func(s *api.State) { s.Mem = make([]uint32, n) })
	}
	for n, is := range map[int]bool{0: false, 1: true, 100: true, 101: false} {
		add(fmt.Sprint("inputs ", n), is, func(s *api.State) { s.In = make([]uint32, n) })
	}
	for n, is := range map[int]bool{math.MinInt: false, -1: false, 0: true, 3: true, 4: false, math.MaxInt: false} {
		add(fmt.Sprint("taken ", n), is, func(s *api.State) { s.Taken = n })
	}
	for _, n := range []int{0, 101, 30000} {
		add(fmt.Sprint("outputs ", n), true, func(s *api.State) { s.Out = make([]uint32, n) })
	}
	for n, is := range map[int]bool{math.MinInt: false, -1: false, 0: true, 1023: true, 1024: true, 1025: false, math.MaxInt: false} {
		add(fmt.Sprint("PC ", n), is, func(s *api.State) { s.PC = n })
		add(fmt.Sprint("last return ", n), is, func(s *api.State) { s.Stack[1] = n })
		add(fmt.Sprint("first return ", n), is, func(s *api.State) { s.Stack[0] = n })
		add(fmt.Sprint("jump ", n), is, func(s *api.State) { s.Jump = n })
		add(fmt.Sprint("jump behind a delay ", n), is, func(s *api.State) { s.Jump, s.Delay = n, 1 })
	}
	for n, is := range map[int]bool{0: true, 16: true, 17: false} {
		add(fmt.Sprint("returns ", n), is, func(s *api.State) { s.Stack = make([]int, n) })
	}
	for n, is := range map[int]bool{math.MinInt: false, -1: false, 0: true, 1: true, 2: true, 3: true, 4: true, 5: true, 6: true, 7: false, math.MaxInt: false} {
		add(fmt.Sprint("stop ", n), is, func(s *api.State) { s.Stop = n })
	}
	for n, is := range map[int]bool{math.MinInt: false, -1: false, 0: true, 1: true, 2: true, 3: false, math.MaxInt: false} {
		add(fmt.Sprint("delay ", n), is, func(s *api.State) { s.Delay = n })
	}
	for n, is := range map[int]bool{math.MinInt: false, -1: false, 0: true, 15: true, 16: false, math.MaxInt: false} {
		add(fmt.Sprint("register that flies ", n), is, func(s *api.State) { s.Fly = []api.Write{{}, {Reg: n}, {}} })
	}
	for n, is := range map[int]bool{math.MinInt: false, -1: false, 0: true, 1: true, 4: true, 5: false, math.MaxInt: false} {
		add(fmt.Sprint("left ", n), is, func(s *api.State) { s.Fly = []api.Write{{}, {Left: n}, {}} })
	}
	add("none flies", true, func(s *api.State) { s.Fly = []api.Write{} })
	add("nothing at all", false, func(s *api.State) { *s = api.State{} })
	return l
}

// crowds tells how many fly of each Left, and whether so many may: at most 4, 8, 12, 16, 20 with Left 4, 3, 2, 1, 0 or more.
func crowds() map[[5]int]bool {
	m := map[[5]int]bool{
		{4, 4, 4, 4, 4}:  true,
		{4, 4, 4, 5, 4}:  false,
		{0, 0, 0, 4, 4}:  true,
		{8, 4, 4, 4, 0}:  true,
		{0, 4, 4, 4, 8}:  false,
		{5, 4, 4, 4, 4}:  false,
		{4, 5, 4, 4, 4}:  false,
		{4, 4, 5, 4, 4}:  false,
		{0, 0, 5, 4, 4}:  false,
		{0, 5, 4, 4, 4}:  false,
		{21, 0, 0, 0, 0}: false,
	}
	for k := range 5 {
		var most, more [5]int
		most[k], more[k] = 4*(5-k), 4*(5-k)+1
		m[most], m[more] = true, false
		if k > 0 {
			most[0], more[k], more[0] = 20-4*(5-k), 4*(5-k), 21-4*(5-k)
			m[most], m[more] = true, false
			more[0], more[k-1] = 0, 5
			m[more] = false
		}
	}
	return m
}

// P6.1: which states may be, told by all three calls.
func TestStatesThatMayBe(t *testing.T) {
	l := variants(t)
	for left, is := range crowds() {
		s, back := start(t), start(t)
		for k, n := range left {
			s.Fly = append(s.Fly, slices.Repeat([]api.Write{{Reg: 15, Left: k}}, n)...)
		}
		back.Fly = slices.Clone(s.Fly)
		slices.Reverse(back.Fly)
		l = append(l, variant{fmt.Sprint("fly ", left), s, is}, variant{fmt.Sprint("fly turned ", left), back, is})
	}
	for _, c := range l {
		want := api.ErrForm
		if c.is {
			want = api.OK
		}
		x, e := Cycle(code(api.Bundle{}), c.s)
		y, n, f := Run(code(api.Bundle{}), c.s, 3)
		if g := Check(c.s); g != want || e != want || f != want {
			t.Errorf("%s: %d, %d, %d", c.name, g, e, f)
		}
		if !c.is && (!isZero(x) || !isZero(y) || n != 0) {
			t.Errorf("%s: %+v, %+v, %d", c.name, x, y, n)
		}
		if c.is && (Check(x) != api.OK || Check(y) != api.OK) {
			t.Errorf("%s: %+v, %+v", c.name, x, y)
		}
	}
}

// P6.1: which code may be; the state may have stopped, and what is wrong may never be reached.
func TestCodeThatMayBe(t *testing.T) {
	end := func(n int, b api.Bundle) []api.Bundle { return append(make([]api.Bundle, n), b) }
	type of struct {
		c []api.Bundle
		e api.Errno
	}
	l := []of{
		{nil, api.OK},
		{[]api.Bundle{}, api.OK},
		{end(1023, api.Bundle{{Op: api.OpJmp, Imm: 1023}, {Op: api.OpCadd}, {Op: api.OpLd}, {Op: api.OpRem}}), api.OK},
		{end(1024, api.Bundle{}), api.ErrForm},
		{append([]api.Bundle{{{Op: api.OpLi, Sym: "a"}}}, make([]api.Bundle, 20)...), api.ErrForm},
	}
	for _, x := range []api.Ins{{Op: -1}, {Op: api.OpHalt + 1}, {Op: math.MaxInt}, {D: 1}, {Op: api.OpAdd, D: 16}, {Op: api.OpOut, A: -1}, {Op: api.OpConj, B: 1}, {Op: api.OpLd, Imm: 8192}, {Op: api.OpJmp, Imm: 1024}, {Op: api.OpBz, Imm: -1}, {Op: api.OpLi, Sym: "a"}, {Op: api.OpLi, Sym: "?"}, {Op: api.OpJmp, Sym: "a"}, {Op: api.OpCall, Sym: "a"}, {Op: api.OpBnz, Sym: "a"}, {Sym: "a"}} {
		for slot := range 4 {
			var b api.Bundle
			b[slot] = x
			l = append(l, of{end(20, b), api.ErrForm})
		}
	}
	for op := range api.OpHalt + 1 {
		for slot := range 4 {
			var b api.Bundle
			b[slot].Op = op
			e := api.ErrForm
			if isa.May(op, slot) {
				e = api.OK
			}
			l = append(l, of{end(20, b), e}, of{append([]api.Bundle{b}, make([]api.Bundle, 20)...), e})
		}
	}
	for i, c := range l {
		for _, stop := range []int{api.StopNone, api.StopHazard} {
			s := start(t)
			s.Stop = stop
			x, e := Cycle(c.c, s)
			y, n, f := Run(c.c, s, 0)
			if e != c.e || f != c.e || n != 0 || e != api.OK && (!isZero(x) || !isZero(y)) {
				t.Errorf("%d: %+v, %d, %+v, %d, %d", i, x, e, y, n, f)
			}
		}
	}
}

// P6.1: how many cycles may be asked for, and are done.
func TestHowManyCycles(t *testing.T) {
	forever := []api.Bundle{{{Op: api.OpJmp}}, {}, {}}
	for n, is := range map[int]bool{math.MinInt: false, -1: false, 0: true, 1: true, 19999: true, 20000: true, 20001: false, math.MaxInt: false} {
		s := start(t)
		s.PC = 0
		x, done, e := Run(forever, s, n)
		if is && (x.PC != n%3 || x.Stop != api.StopNone || done != n || e != api.OK) || !is && (!isZero(x) || done != 0 || e != api.ErrForm) {
			t.Errorf("%d cycles: %+v, %d, %d", n, x, done, e)
		}
		// Of one that has stopped n counts, too.
		s.Stop = api.StopHalt
		if x, done, e := Run(forever, s, n); (e == api.OK) != is || done != 0 || !is && !isZero(x) {
			t.Errorf("%d cycles of what has stopped: %+v, %d, %d", n, x, done, e)
		}
	}
}

// chance tells numbers that look like any, the same ones each time.
type chance uint64

func (c *chance) below(n int) int {
	*c = *c*6364136223846793005 + 1442695040888963407
	return int(uint64(*c)>>33) % n
}

// some is any instruction below op most; targets and addresses lie near, so that much of the code is done.
func some(c *chance, most int) api.Ins {
	return instruction(c.below(most), c.below(16), c.below(16), c.below(16), c.below(44))
}

// someCode has any instructions, each slot those that may stand there.
func someCode(c *chance) []api.Bundle {
	code := make([]api.Bundle, 40)
	for i := range code {
		for slot := range code[i] {
			x := some(c, api.OpHalt)
			if isa.May(x.Op, slot) {
				code[i][slot] = x
			}
		}
		if c.below(60) == 0 {
			code[i][0] = api.Ins{Op: api.OpHalt}
		}
	}
	return code
}

// P6.2: Run of n, then of m, is Run of both, and as many cycles; outputs only grow; what was handed in stays, and what is told may be.
func TestRunInPieces(t *testing.T) {
	c, stops, longest := chance(1), map[int]int{}, 0
	for round := range 3000 {
		code := someCode(&c)
		s := busy(t)
		s.PC = 0
		was, kept := show(s), slices.Clone(code)
		n, m := c.below(60), c.below(60)
		whole, both, e := Run(code, s, n+m)
		first, k, f := Run(code, s, n)
		second, l, g := Run(code, first, m)
		if show(second) != show(whole) || k+l != both || e != api.OK || f != api.OK || g != api.OK {
			t.Fatalf("round %d: %+v, %d and %d, not %+v, %d", round, second, k, l, whole, both)
		}
		single := s
		for i := range both {
			if single.Stop != api.StopNone {
				t.Fatalf("round %d, cycle %d: counted behind its stop", round, i)
			}
			next, e := Cycle(code, single)
			if e != api.OK || Check(next) != api.OK || len(next.Out) < len(single.Out) || !slices.Equal(next.Out[:len(single.Out)], single.Out) {
				t.Fatalf("round %d, cycle %d: %+v, %d", round, i, next, e)
			}
			single = next
		}
		if show(single) != show(whole) || both < n+m && whole.Stop == api.StopNone {
			t.Fatalf("round %d: %+v, not %+v", round, single, whole)
		}
		if show(s) != was || !slices.Equal(code, kept) {
			t.Fatalf("round %d: what was handed in has changed", round)
		}
		stops[whole.Stop]++
		longest = max(longest, both)
	}
	for stop := range api.StopHazard {
		if stops[stop] == 0 {
			t.Errorf("no run stopped by %d: %v", stop, stops)
		}
	}
	if longest < 60 {
		t.Errorf("longest: %d", longest)
	}
}

// apart has each instruction in a bundle, and nops behind it until its result is there, and its jump done.
func apart(t *testing.T, p []api.Ins) []api.Bundle {
	c := make([]api.Bundle, api.Latest*len(p))
	for i, x := range p {
		if isa.Ends(x.Op) && x.Op != api.OpRet && x.Op != api.OpHalt {
			x.Imm *= api.Latest
		}
		c[api.Latest*i] = alone(t, x)
	}
	return c
}

// P6.1: code that waits for each result comes to the same as seq does.
func TestAsOneByOne(t *testing.T) {
	c, stops := chance(5), map[int]int{}
	for round := range 3000 {
		p := make([]api.Ins, 40)
		for i := range p {
			p[i] = some(&c, api.OpHalt)
			if c.below(40) == 0 {
				p[i] = api.Ins{Op: api.OpHalt}
			}
		}
		s := start(t)
		s.PC, s.Stack = 0, nil
		want, n, e := seq.Run(p, s, 200)
		x, _, f := Run(apart(t, p), s, api.Latest*n+3)
		if e != api.OK || f != api.OK || !slices.Equal(x.Out[:min(len(x.Out), len(want.Out))], want.Out) {
			t.Fatalf("round %d: %d, %d, %v, not %v", round, e, f, x.Out, want.Out)
		}
		if want.Stop == api.StopNone {
			continue
		}
		// Returns differ by what stands between.
		want.PC *= api.Latest
		want.Stack, x.Stack = nil, nil
		if show(x) != show(want) {
			t.Fatalf("round %d: %+v, not %+v", round, x, want)
		}
		stops[want.Stop]++
	}
	if l := slices.Sorted(maps.Keys(stops)); len(l) != api.StopCode {
		t.Errorf("stops: %v", stops)
	}
}

// scratch writes into all that a state has, spare room too.
func scratch(s api.State) {
	for _, l := range [][]uint32{s.Regs, s.Mem, s.In, s.Out} {
		for i := range l[:cap(l)] {
			l[:cap(l)][i] = 77
		}
	}
	for i := range s.Stack[:cap(s.Stack)] {
		s.Stack[:cap(s.Stack)][i] = 77
	}
	for i := range s.Fly[:cap(s.Fly)] {
		s.Fly[:cap(s.Fly)][i] = api.Write{Reg: 7, Value: 77, Left: 7}
	}
}

// roomy is a state whose lists have spare room.
func roomy(t *testing.T) api.State {
	t.Helper()
	s := busy(t)
	s.PC = 0
	s.In = append(make([]uint32, 0, 20), s.In...)
	s.Out = append(make([]uint32, 0, 20), s.Out...)
	s.Stack = append(make([]int, 0, 20), s.Stack...)
	s.Fly = append(make([]api.Write, 0, 20), s.Fly...)
	return s
}

// rooms tells what stands in a state's lists, spare room too.
func rooms(s api.State) string {
	return fmt.Sprint(s.Regs[:cap(s.Regs)], s.Mem[:cap(s.Mem)], s.In[:cap(s.In)], s.Out[:cap(s.Out)], s.Stack[:cap(s.Stack)], s.Fly[:cap(s.Fly)])
}

// R2: nothing that is handed in is written into or kept, spare room too.
func TestNothingIsShared(t *testing.T) {
	calls := []api.Bundle{
		{{Op: api.OpCall, Imm: 2}, {Op: api.OpLi, D: 1}, {Op: api.OpOut, A: 1}, {Op: api.OpMul}},
		{{Op: api.OpCall, Imm: 2}, {Op: api.OpLi, D: 1}, {Op: api.OpIn}, {Op: api.OpCmul}},
		{{Op: api.OpRet}, {}, {Op: api.OpSt, A: 1}},
		{{Op: api.OpHalt}},
	}
	for _, c := range [][]api.Bundle{nil, calls} {
		for n := range 6 {
			for _, stop := range []int{api.StopNone, api.StopHazard} {
				s := roomy(t)
				s.Stop = stop
				was := rooms(s)
				x, _, e := Run(c, s, n)
				if e != api.OK {
					t.Fatalf("%d", e)
				}
				if rooms(s) != was {
					t.Errorf("%d cycles wrote into what was handed in: %s", n, rooms(s))
				}
				told := show(x)
				scratch(s)
				if show(x) != told {
					t.Errorf("%d cycles: what was told has changed", n)
				}
				again := roomy(t)
				again.Stop = stop
				x, _, _ = Run(c, again, n)
				scratch(x)
				if rooms(again) != was {
					t.Errorf("%d cycles: what was handed in has changed", n)
				}
			}
		}
	}
}

// R2: lists that have one memory when they are handed in have each their own when they are told.
func TestListsOfOneAnswer(t *testing.T) {
	s := start(t)
	one := make([]uint32, 300)
	s.Regs, s.Mem, s.In, s.Out, s.PC = one[:16], one[16:272], one[:100], one[50:60], 0
	c := []api.Bundle{{{Op: api.OpLi, D: 1, Imm: 9}}, {2: {Op: api.OpSt, B: 1}}, {2: {Op: api.OpOut, A: 1}}}
	x, _, e := Run(c, s, 3)
	if e != api.OK || x.In[1] != 0 || x.In[16] != 0 || x.Regs[1] != 9 || x.Mem[0] != 9 || !slices.Equal(x.Out, append(make([]uint32, 10), 9)) {
		t.Errorf("%+v, %d", x, e)
	}
	if slices.ContainsFunc(one, func(w uint32) bool { return w != 0 }) {
		t.Errorf("handed in: %v", one)
	}
}
