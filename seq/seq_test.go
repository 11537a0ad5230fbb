package seq

import (
	"fmt"
	"math"
	"slices"
	"testing"

	"sledge/api"
	"sledge/isa"
)

const (
	low   = uint32(1) << 31
	minus = ^uint32(0)
)

// start is a state in the midst of a run: each register, word of memory and input has a value of its own.
func start(t *testing.T) api.State {
	t.Helper()
	s, e := New(50, 51, 52)
	if e != api.OK {
		t.Fatalf("New: %d", e)
	}
	for i := range s.Regs {
		s.Regs[i] = uint32(100 + i)
	}
	for i := range s.Mem {
		s.Mem[i] = uint32(1000 + i)
	}
	s.Taken, s.Out, s.PC, s.Stack = 1, []uint32{7, 8}, 5, []int{3, 9}
	return s
}

// program has the instruction at place 5, and others around it that would be seen.
func program(x api.Ins) []api.Ins {
	p := slices.Repeat([]api.Ins{{Op: api.OpOut, A: 15}}, 10)
	p[5] = x
	return p
}

// show tells a state in full; a nil list and an empty one are one.
func show(s api.State) string { return fmt.Sprintf("%+v", s) }

func isZero(s api.State) bool { return show(s) == show(api.State{}) }

// P5.1: New has nothing but its inputs.
func TestNew(t *testing.T) {
	for _, n := range []int{0, 1, 99, 100} {
		in := make([]uint32, n)
		for i := range in {
			in[i] = uint32(i + 1)
		}
		want := api.State{Regs: make([]uint32, 16), Mem: make([]uint32, 256), In: slices.Clone(in)}
		s, e := New(in...)
		if show(s) != show(want) || e != api.OK || Check(s) != api.OK {
			t.Errorf("%d inputs: %+v, %d", n, s, e)
		}
	}
	for _, n := range []int{101, 102, 1000} {
		if s, e := New(make([]uint32, n)...); !isZero(s) || e != api.ErrForm {
			t.Errorf("%d inputs: %+v, %d", n, s, e)
		}
	}
}

// P5.1: each op that has a result and reads two registers, at most.
func TestResults(t *testing.T) {
	for _, c := range []struct {
		op         int
		a, b, want uint32
	}{
		{api.OpAdd, minus, 3, 2},
		{api.OpSub, 3, 5, minus - 1},
		{api.OpAnd, 12, 10, 8},
		{api.OpOr, 12, 10, 14},
		{api.OpXor, 12, 10, 6},
		{api.OpShl, 3, 33, 6},
		{api.OpShr, low, 30, 2},
		{api.OpSar, low, 30, minus - 1},
		{api.OpSlt, minus, 1, 1},
		{api.OpSltu, minus, 1, 0},
		{api.OpEq, 9, 9, 1},
		{api.OpEq, 9, 8, 0},
		{api.OpMin, minus, 1, minus},
		{api.OpMax, minus, 1, 1},
		{api.OpMul, minus - 2, 5, minus - 14},
		{api.OpMulh, 1 << 20, 1 << 20, 1 << 8},
		{api.OpDiv, minus - 6, 2, minus - 2},
		{api.OpDiv, low, minus, low},
		{api.OpDiv, 0, 7, 0},
		{api.OpRem, minus - 6, 2, minus},
		{api.OpRem, low, minus, 0},
		{api.OpCadd, 0x0002ffff, 0x00030002, 0x00050001},
		{api.OpCsub, 0x00020001, 0x00030002, 0xffffffff},
		{api.OpCmul, 0x00010000, 0x00010000, 0x0000ffff},
	} {
		s := start(t)
		s.Regs[2], s.Regs[3] = c.a, c.b
		want := start(t)
		want.Regs[2], want.Regs[3], want.Regs[4], want.PC = c.a, c.b, c.want, 6
		if x, e := Step(program(api.Ins{Op: c.op, D: 4, A: 2, B: 3}), s); show(x) != show(want) || e != api.OK {
			t.Errorf("op %d of %#x, %#x: %+v, %d", c.op, c.a, c.b, x, e)
		}
		// D may be one of those that are read.
		want.Regs[2], want.Regs[4] = c.want, 104
		if x, e := Step(program(api.Ins{Op: c.op, D: 2, A: 2, B: 3}), s); show(x) != show(want) || e != api.OK {
			t.Errorf("op %d into its A: %+v, %d", c.op, x, e)
		}
		want.Regs[2], want.Regs[3] = c.a, c.want
		if x, e := Step(program(api.Ins{Op: c.op, D: 3, A: 2, B: 3}), s); show(x) != show(want) || e != api.OK {
			t.Errorf("op %d into its B: %+v, %d", c.op, x, e)
		}
	}
}

// P5.1: a step of each of the other ops: what changes, and nothing else.
func TestSteps(t *testing.T) {
	type change func(s *api.State)
	none := func(s *api.State) {}
	for i, c := range []struct {
		x           api.Ins
		before, now change
	}{
		{api.Ins{}, none, func(s *api.State) { s.PC = 6 }},
		{api.Ins{Op: api.OpConj, D: 4, A: 2}, func(s *api.State) { s.Regs[2] = 0x00070005 }, func(s *api.State) { s.Regs[4], s.PC = 0xfff90005, 6 }},
		{api.Ins{Op: api.OpAddi, D: 4, A: 2, Imm: 8191}, none, func(s *api.State) { s.Regs[4], s.PC = 102+8191, 6 }},
		{api.Ins{Op: api.OpAddi, D: 2, A: 2, Imm: -103}, none, func(s *api.State) { s.Regs[2], s.PC = minus, 6 }},
		{api.Ins{Op: api.OpAddi, A: 15, Imm: -8192}, none, func(s *api.State) { s.Regs[0], s.PC = minus-8076, 6 }},
		{api.Ins{Op: api.OpLi, D: 15, Imm: 131071}, none, func(s *api.State) { s.Regs[15], s.PC = 131071, 6 }},
		{api.Ins{Op: api.OpLi, Imm: -131072}, none, func(s *api.State) { s.Regs[0], s.PC = 0xfffe0000, 6 }},
		{api.Ins{Op: api.OpLd, D: 4, A: 2, Imm: 3}, none, func(s *api.State) { s.Regs[4], s.PC = 1105, 6 }},
		{api.Ins{Op: api.OpLd, D: 2, A: 2, Imm: -102}, none, func(s *api.State) { s.Regs[2], s.PC = 1000, 6 }},
		{api.Ins{Op: api.OpSt, A: 2, B: 4, Imm: 3}, none, func(s *api.State) { s.Mem[105], s.PC = 104, 6 }},
		{api.Ins{Op: api.OpSt, A: 2, B: 2}, none, func(s *api.State) { s.Mem[102], s.PC = 102, 6 }},
		{api.Ins{Op: api.OpIn, D: 4}, none, func(s *api.State) { s.Regs[4], s.Taken, s.PC = 51, 2, 6 }},
		{api.Ins{Op: api.OpIn, D: 4}, func(s *api.State) { s.Taken = 0 }, func(s *api.State) { s.Regs[4], s.Taken, s.PC = 50, 1, 6 }},
		{api.Ins{Op: api.OpIn, D: 4}, func(s *api.State) { s.Taken = 2 }, func(s *api.State) { s.Regs[4], s.Taken, s.PC = 52, 3, 6 }},
		{api.Ins{Op: api.OpIn, D: 4}, func(s *api.State) { s.Taken = 3 }, func(s *api.State) { s.Regs[4], s.PC = 0, 6 }},
		{api.Ins{Op: api.OpIn, D: 4}, func(s *api.State) { s.In, s.Taken = nil, 0 }, func(s *api.State) { s.Regs[4], s.PC = 0, 6 }},
		{api.Ins{Op: api.OpOut, A: 4}, none, func(s *api.State) { s.Out, s.PC = []uint32{7, 8, 104}, 6 }},
		{api.Ins{Op: api.OpOut, A: 4}, func(s *api.State) { s.Out = nil }, func(s *api.State) { s.Out, s.PC = []uint32{104}, 6 }},
		{api.Ins{Op: api.OpJmp, Imm: 1023}, none, func(s *api.State) { s.PC = 1023 }},
		{api.Ins{Op: api.OpJmp, Imm: 5}, none, none},
		{api.Ins{Op: api.OpJmp}, none, func(s *api.State) { s.PC = 0 }},
		{api.Ins{Op: api.OpBz, A: 4, Imm: 2}, func(s *api.State) { s.Regs[4] = 0 }, func(s *api.State) { s.PC = 2 }},
		{api.Ins{Op: api.OpBz, A: 4, Imm: 2}, func(s *api.State) { s.Regs[0] = 0 }, func(s *api.State) { s.PC = 6 }},
		{api.Ins{Op: api.OpBnz, A: 4, Imm: 2}, func(s *api.State) { s.Regs[4] = 0 }, func(s *api.State) { s.PC = 6 }},
		{api.Ins{Op: api.OpBnz, A: 4, Imm: 1023}, func(s *api.State) { s.Regs[4] = low }, func(s *api.State) { s.PC = 1023 }},
		{api.Ins{Op: api.OpCall, Imm: 2}, none, func(s *api.State) { s.PC, s.Stack = 2, []int{3, 9, 6} }},
		{api.Ins{Op: api.OpCall, Imm: 5}, func(s *api.State) { s.Stack = make([]int, 15) }, func(s *api.State) { s.Stack = append(make([]int, 15), 6) }},
		{api.Ins{Op: api.OpRet}, none, func(s *api.State) { s.PC, s.Stack = 9, []int{3} }},
		{api.Ins{Op: api.OpRet}, func(s *api.State) { s.Stack = []int{1024} }, func(s *api.State) { s.PC, s.Stack = 1024, nil }},
	} {
		s := start(t)
		c.before(&s)
		want := start(t)
		c.before(&want)
		c.now(&want)
		if x, e := Step(program(c.x), s); show(x) != show(want) || e != api.OK || Check(x) != api.OK {
			t.Errorf("%d, %+v: %+v, %d, not %+v", i, c.x, x, e, want)
		}
	}
}

// P5.1: why it stops; all else stays, and it takes a step.
func TestStops(t *testing.T) {
	for i, c := range []struct {
		x      api.Ins
		before func(s *api.State)
		stop   int
	}{
		{api.Ins{Op: api.OpHalt}, func(s *api.State) {}, api.StopHalt},
		{api.Ins{Op: api.OpDiv, D: 4, A: 2, B: 3}, func(s *api.State) { s.Regs[3] = 0 }, api.StopDiv},
		{api.Ins{Op: api.OpRem, D: 4, A: 2, B: 3}, func(s *api.State) { s.Regs[3] = 0 }, api.StopDiv},
		{api.Ins{Op: api.OpDiv, D: 4, A: 3, B: 3}, func(s *api.State) { s.Regs[3] = 0 }, api.StopDiv},
		{api.Ins{Op: api.OpRem, D: 3, A: 3, B: 3}, func(s *api.State) { s.Regs[3] = 0 }, api.StopDiv},
		{api.Ins{Op: api.OpRet}, func(s *api.State) { s.Stack = nil }, api.StopStack},
		{api.Ins{Op: api.OpRet}, func(s *api.State) { s.Stack = []int{} }, api.StopStack},
		{api.Ins{Op: api.OpCall, Imm: 2}, func(s *api.State) { s.Stack = make([]int, 16) }, api.StopStack},
		{api.Ins{}, func(s *api.State) { s.PC = 10 }, api.StopCode},
		{api.Ins{}, func(s *api.State) { s.PC = 11 }, api.StopCode},
		{api.Ins{}, func(s *api.State) { s.PC = 1024 }, api.StopCode},
	} {
		s := start(t)
		c.before(&s)
		want := start(t)
		c.before(&want)
		want.Stop = c.stop
		x, n, e := Run(program(c.x), s, 10)
		if show(x) != show(want) || n != 1 || e != api.OK || Check(x) != api.OK {
			t.Errorf("%d, %+v: %+v, %d, %d", i, c.x, x, n, e)
		}
	}
}

// P5.1: addresses are sums modulo 2^32, and lie below 256; both of loads and of stores.
func TestAddresses(t *testing.T) {
	for _, c := range []struct {
		a   uint32
		imm int
		at  int // -1: none
	}{
		{0, 0, 0},
		{0, 255, 255},
		{0, 256, -1},
		{0, -1, -1},
		{255, 0, 255},
		{255, 1, -1},
		{256, 0, -1},
		{256, -1, 255},
		{8192, -8192, 0},
		{8191, -8192, -1},
		{minus, 1, 0},
		{minus, 256, 255},
		{minus, 257, -1},
		{minus, 0, -1},
		{low, 0, -1},
		{low, 255, -1},
		{low + 5, -8192, -1},
		{minus - 8190, 8191, 0},
		{minus - 8191, 8191, -1},
		{1 << 16, 1, -1},
		{1 << 8, 1, -1},
	} {
		s := start(t)
		s.Regs[2] = c.a
		ldWant, stWant := copyOf(s), copyOf(s)
		if c.at < 0 {
			ldWant.Stop, stWant.Stop = api.StopMem, api.StopMem
		} else {
			ldWant.PC, stWant.PC = 6, 6
			ldWant.Regs[4], stWant.Mem[c.at] = uint32(1000+c.at), 104
		}
		if x, e := Step(program(api.Ins{Op: api.OpLd, D: 4, A: 2, Imm: c.imm}), s); show(x) != show(ldWant) || e != api.OK {
			t.Errorf("ld at %#x%+d: %+v, %d", c.a, c.imm, x, e)
		}
		if x, e := Step(program(api.Ins{Op: api.OpSt, B: 4, A: 2, Imm: c.imm}), s); show(x) != show(stWant) || e != api.OK {
			t.Errorf("st at %#x%+d: %+v, %d", c.a, c.imm, x, e)
		}
	}
}

// P5.1: of a state that has stopped, in whatever way, nothing is done.
func TestStoppedStays(t *testing.T) {
	for stop := api.StopHalt; stop <= api.StopCode; stop++ {
		for _, p := range [][]api.Ins{nil, program(api.Ins{Op: api.OpLi, D: 1})} {
			s := start(t)
			s.Stop = stop
			x, e := Step(p, s)
			y, n, f := Run(p, s, api.MaxSteps)
			if show(x) != show(s) || show(y) != show(s) || n != 0 || e != api.OK || f != api.OK {
				t.Errorf("stop %d: %+v, %d, %+v, %d, %d", stop, x, e, y, n, f)
			}
		}
	}
}

// variant is a state with one thing changed, and whether it still may be.
type variant struct {
	name string
	s    api.State
	is   bool
}

func variants(t *testing.T) []variant {
	t.Helper()
	var l []variant
	add := func(name string, is bool, do func(s *api.State)) {
		s := start(t)
		do(&s)
		l = append(l, variant{name, s, is})
	}
	add("as it is", true, func(s *api.State) {})
	for n, is := range map[int]bool{0: false, 15: false, 16: true, 17: false} {
		add(fmt.Sprint("registers ", n), is, func(s *api.State) { s.Regs = make([]uint32, n) })
	}
	for n, is := range map[int]bool{0: false, 255: false, 256: true, 257: false} {
		add(fmt.Sprint("memory ", n), is, func(s *api.State) { s.Mem = make([]uint32, n) })
	}
	for n, is := range map[int]bool{0: false, 1: true, 100: true, 101: false} {
		add(fmt.Sprint("inputs ", n), is, func(s *api.State) { s.In = make([]uint32, n) })
	}
	for n, is := range map[int]bool{math.MinInt: false, -1: false, 0: true, 3: true, 4: false, math.MaxInt: false} {
		add(fmt.Sprint("taken ", n), is, func(s *api.State) { s.Taken = n })
	}
	for _, n := range []int{0, 101, 30000} {
		add(fmt.Sprint("outputs ", n), true, func(s *api.State) { s.Out = make([]uint32, n) })
	}
	for n, is := range map[int]bool{math.MinInt: false, -1: false, 0: true, 1023: true, 1024: true, 1025: false, math.MaxInt: false} {
		add(fmt.Sprint("PC ", n), is, func(s *api.State) { s.PC = n })
		add(fmt.Sprint("last return ", n), is, func(s *api.State) { s.Stack[1] = n })
		add(fmt.Sprint("first return ", n), is, func(s *api.State) { s.Stack[0] = n })
	}
	for n, is := range map[int]bool{0: true, 16: true, 17: false} {
		add(fmt.Sprint("returns ", n), is, func(s *api.State) { s.Stack = make([]int, n) })
	}
	for n, is := range map[int]bool{math.MinInt: false, -1: false, 0: true, 1: true, 2: true, 3: true, 4: true, 5: true, 6: false, 7: false, math.MaxInt: false} {
		add(fmt.Sprint("stop ", n), is, func(s *api.State) { s.Stop = n })
	}
	add("none flies", true, func(s *api.State) { s.Fly = []api.Write{} })
	add("one flies", false, func(s *api.State) { s.Fly = []api.Write{{}} })
	for _, n := range []int{-1, 1, 2, 1024} {
		add(fmt.Sprint("jump ", n), false, func(s *api.State) { s.Jump = n })
		add(fmt.Sprint("delay ", n), false, func(s *api.State) { s.Delay = n })
	}
	add("nothing at all", false, func(s *api.State) { *s = api.State{} })
	return l
}

// P5.1: which states may be, told by all three calls.
func TestStatesThatMayBe(t *testing.T) {
	for _, c := range variants(t) {
		want := api.ErrForm
		if c.is {
			want = api.OK
		}
		x, e := Step(program(api.Ins{}), c.s)
		y, n, f := Run(program(api.Ins{}), c.s, 3)
		if g := Check(c.s); g != want || e != want || f != want {
			t.Errorf("%s: %d, %d, %d", c.name, g, e, f)
		}
		if !c.is && (!isZero(x) || !isZero(y) || n != 0) {
			t.Errorf("%s: %+v, %+v, %d", c.name, x, y, n)
		}
	}
}

// P5.1: which programs may be; the state may have stopped, and what is wrong may never be reached.
func TestProgramsThatMayBe(t *testing.T) {
	end := func(n int, x api.Ins) []api.Ins { return append(make([]api.Ins, n), x) }
	for i, c := range []struct {
		p []api.Ins
		e api.Errno
	}{
		{nil, api.OK},
		{[]api.Ins{}, api.OK},
		{end(1023, api.Ins{Op: api.OpJmp, Imm: 1023}), api.OK},
		{end(1024, api.Ins{}), api.ErrForm},
		{end(20, api.Ins{Op: -1}), api.ErrForm},
		{end(20, api.Ins{Op: api.OpHalt + 1}), api.ErrForm},
		{end(20, api.Ins{Op: math.MaxInt}), api.ErrForm},
		{end(20, api.Ins{D: 1}), api.ErrForm},
		{end(20, api.Ins{Op: api.OpAdd, D: 16}), api.ErrForm},
		{end(20, api.Ins{Op: api.OpOut, A: -1}), api.ErrForm},
		{end(20, api.Ins{Op: api.OpConj, B: 1}), api.ErrForm},
		{end(20, api.Ins{Op: api.OpLd, Imm: 8192}), api.ErrForm},
		{end(20, api.Ins{Op: api.OpJmp, Imm: 1024}), api.ErrForm},
		{end(20, api.Ins{Op: api.OpBz, Imm: -1}), api.ErrForm},
		{end(20, api.Ins{Op: api.OpLi, Sym: "a"}), api.ErrForm},
		{end(20, api.Ins{Op: api.OpJmp, Sym: "a"}), api.ErrForm},
		{end(20, api.Ins{Op: api.OpCall, Sym: "a"}), api.ErrForm},
		{end(20, api.Ins{Op: api.OpBnz, Sym: "a"}), api.ErrForm},
		{append([]api.Ins{{Op: api.OpLi, Sym: "a"}}, make([]api.Ins, 20)...), api.ErrForm},
	} {
		for _, stop := range []int{api.StopNone, api.StopHalt} {
			s := start(t)
			s.Stop = stop
			x, e := Step(c.p, s)
			y, n, f := Run(c.p, s, 0)
			if e != c.e || f != c.e || n != 0 || e != api.OK && (!isZero(x) || !isZero(y)) {
				t.Errorf("%d: %+v, %d, %+v, %d, %d", i, x, e, y, n, f)
			}
		}
	}
}

// P5.1: how many steps may be asked for, and are done.
func TestHowManySteps(t *testing.T) {
	forever := program(api.Ins{Op: api.OpJmp, Imm: 5})
	for n, is := range map[int]bool{math.MinInt: false, -1: false, 0: true, 1: true, 19999: true, 20000: true, 20001: false, math.MaxInt: false} {
		s := start(t)
		x, done, e := Run(forever, s, n)
		if is && (show(x) != show(s) || done != n || e != api.OK) || !is && (!isZero(x) || done != 0 || e != api.ErrForm) {
			t.Errorf("%d steps: %+v, %d, %d", n, x, done, e)
		}
		// Of one that has stopped n counts, too.
		s.Stop = api.StopHalt
		if x, done, e := Run(forever, s, n); (e == api.OK) != is || done != 0 || !is && !isZero(x) {
			t.Errorf("%d steps of what has stopped: %+v, %d, %d", n, x, done, e)
		}
	}
}

// factorial reads a number, and writes its factorial, by calls in one another that keep the numbers in memory.
func factorial() []api.Ins {
	return []api.Ins{
		{Op: api.OpIn, D: 1},
		{Op: api.OpCall, Imm: 4},
		{Op: api.OpOut, A: 2},
		{Op: api.OpHalt},
		{Op: api.OpBnz, A: 1, Imm: 7},
		{Op: api.OpLi, D: 2, Imm: 1},
		{Op: api.OpRet},
		{Op: api.OpSt, A: 3, B: 1},
		{Op: api.OpAddi, D: 3, A: 3, Imm: 1},
		{Op: api.OpAddi, D: 1, A: 1, Imm: -1},
		{Op: api.OpCall, Imm: 4},
		{Op: api.OpAddi, D: 3, A: 3, Imm: -1},
		{Op: api.OpLd, D: 1, A: 3},
		{Op: api.OpMul, D: 2, A: 2, B: 1},
		{Op: api.OpRet},
	}
}

// P5.1: a program to its end, as deep as returns go, and deeper.
func TestFactorial(t *testing.T) {
	product := uint32(1)
	for n := range uint32(16) {
		if n > 0 {
			product *= n
		}
		s, _ := New(n)
		x, done, e := Run(factorial(), s, api.MaxSteps)
		if x.Stop != api.StopHalt || x.PC != 3 || len(x.Stack) != 0 || !slices.Equal(x.Out, []uint32{product}) || done != int(9*n)+7 || e != api.OK {
			t.Errorf("%d: %+v, %d, %d", n, x, done, e)
		}
	}
	s, _ := New(16)
	if x, _, e := Run(factorial(), s, api.MaxSteps); x.Stop != api.StopStack || x.PC != 10 || len(x.Stack) != 16 || len(x.Out) != 0 || e != api.OK {
		t.Errorf("16: %+v, %d", x, e)
	}
}

// chance tells numbers that look like any, the same ones each time.
type chance uint64

func (c *chance) below(n int) int {
	*c = *c*6364136223846793005 + 1442695040888963407
	return int(uint64(*c)>>33) % n
}

// someProgram has any instructions; targets and addresses lie near, so that much of it is done.
func someProgram(c *chance) []api.Ins {
	p := make([]api.Ins, 0, 40)
	for len(p) < cap(p) {
		x := api.Ins{Op: c.below(api.OpHalt), D: c.below(16), A: c.below(16), B: c.below(16), Imm: c.below(44)}
		form, _ := isa.Form(x.Op)
		switch form {
		case api.FormNone:
			x.D, x.A, x.B, x.Imm = 0, 0, 0, 0
		case api.FormThree:
			x.Imm = 0
		case api.FormTwo:
			x.B, x.Imm = 0, 0
		case api.FormAdd, api.FormLoad:
			x.B = 0
			if form == api.FormLoad {
				x.A = 0
			}
		case api.FormStore:
			x.D = 0
		case api.FormIn:
			x.A, x.B, x.Imm = 0, 0, 0
		case api.FormOut:
			x.D, x.B, x.Imm = 0, 0, 0
		case api.FormJump:
			x.D, x.A, x.B = 0, 0, 0
		case api.FormBranch:
			x.D, x.B = 0, 0
		}
		p = append(p, x)
	}
	return p
}

// P5.2: Run of n, then of m, is Run of both; outputs only grow; what was handed in stays, and what is told may be.
func TestRunInPieces(t *testing.T) {
	c, stops, longest := chance(1), map[int]int{}, 0
	for round := range 3000 {
		p := someProgram(&c)
		s := start(t)
		s.PC = 0
		code, was := slices.Clone(p), show(s)
		n, m := c.below(60), c.below(60)
		whole, both, e := Run(p, s, n+m)
		first, k, f := Run(p, s, n)
		second, l, g := Run(p, first, m)
		if show(second) != show(whole) || k+l != both || e != api.OK || f != api.OK || g != api.OK {
			t.Fatalf("round %d: %+v, %d and %d, not %+v, %d", round, second, k, l, whole, both)
		}
		single := s
		for i := range both {
			next, e := Step(p, single)
			if e != api.OK || Check(next) != api.OK || len(next.Out) < len(single.Out) || !slices.Equal(next.Out[:len(single.Out)], single.Out) {
				t.Fatalf("round %d, step %d: %+v, %d", round, i, next, e)
			}
			if single.Stop != api.StopNone {
				t.Fatalf("round %d, step %d: counted behind its stop", round, i)
			}
			single = next
		}
		if show(single) != show(whole) || both < n+m && whole.Stop == api.StopNone {
			t.Fatalf("round %d: %+v, not %+v", round, single, whole)
		}
		if show(s) != was || !slices.Equal(p, code) {
			t.Fatalf("round %d: what was handed in has changed", round)
		}
		stops[whole.Stop]++
		longest = max(longest, both)
	}
	for stop := range api.StopCode + 1 {
		if stop != api.StopHalt && stops[stop] == 0 {
			t.Errorf("no run stopped by %d: %v", stop, stops)
		}
	}
	if longest < 60 {
		t.Errorf("longest: %d", longest)
	}
}

// scratch writes into all that a state has, spare room too.
func scratch(s api.State) {
	for _, l := range [][]uint32{s.Regs, s.Mem, s.In, s.Out} {
		for i := range l[:cap(l)] {
			l[:cap(l)][i] = 77
		}
	}
	for i := range s.Stack[:cap(s.Stack)] {
		s.Stack[:cap(s.Stack)][i] = 77
	}
}

// roomy is a state whose lists have spare room.
func roomy(t *testing.T) api.State {
	s := start(t)
	s.In = append(make([]uint32, 0, 20), s.In...)
	s.Out = append(make([]uint32, 0, 20), s.Out...)
	s.Stack = append(make([]int, 0, 20), s.Stack...)
	return s
}

// R2: nothing that is handed in is written into or kept, spare room too.
func TestNothingIsShared(t *testing.T) {
	calls := []api.Ins{{Op: api.OpOut, A: 1}, {Op: api.OpCall, Imm: 2}, {Op: api.OpSt, A: 1}, {Op: api.OpIn, D: 3}}
	for _, p := range [][]api.Ins{nil, calls} {
		for n := range 6 {
			s := roomy(t)
			s.PC = 0
			x, _, e := Run(p, s, n)
			if e != api.OK {
				t.Fatalf("%d", e)
			}
			if !slices.Equal(s.Out[:20], append([]uint32{7, 8}, make([]uint32, 18)...)) || !slices.Equal(s.Stack[:20], append([]int{3, 9}, make([]int, 18)...)) {
				t.Errorf("%d steps wrote into what was handed in: %v, %v", n, s.Out[:20], s.Stack[:20])
			}
			told := show(x)
			scratch(s)
			if show(x) != told {
				t.Errorf("%d steps: what was told has changed", n)
			}
			again := roomy(t)
			again.PC = 0
			want := show(again)
			x, _, _ = Run(p, again, n)
			scratch(x)
			if show(again) != want {
				t.Errorf("%d steps: what was handed in has changed", n)
			}
		}
	}
}

// R2: lists that have one memory when they are handed in have each their own when they are told.
func TestListsOfOneAnswer(t *testing.T) {
	s := start(t)
	one := make([]uint32, 300)
	s.Regs, s.Mem, s.In, s.Out, s.PC = one[:16], one[16:272], one[:100], one[50:60], 0
	p := []api.Ins{{Op: api.OpLi, D: 1, Imm: 9}, {Op: api.OpSt, B: 1}, {Op: api.OpOut, A: 1}}
	x, _, e := Run(p, s, 3)
	if e != api.OK || x.In[1] != 0 || x.In[16] != 0 || x.Regs[1] != 9 || x.Mem[0] != 9 || !slices.Equal(x.Out, append(make([]uint32, 10), 9)) {
		t.Errorf("%+v, %d", x, e)
	}
	if slices.ContainsFunc(one, func(w uint32) bool { return w != 0 }) {
		t.Errorf("handed in: %v", one)
	}
}

// R2: New keeps none of its inputs, and no two states have anything in common.
func TestNewIsNew(t *testing.T) {
	in := append(make([]uint32, 0, 8), 1, 2)
	a, _ := New(in...)
	b, _ := New(in...)
	told := show(b)
	scratch(a)
	if show(b) != told || !slices.Equal(in[:8], []uint32{1, 2, 0, 0, 0, 0, 0, 0}) {
		t.Errorf("%+v, %v", b, in[:8])
	}
	in[0] = 9
	if show(b) != told {
		t.Errorf("%+v", b)
	}
}
