package hazard

import (
	"fmt"
	"math"
	"slices"
	"testing"

	"sledge/api"
	"sledge/isa"
	"sledge/pipe"
	"sledge/seq"
)

// start is a state in the midst of a run: each register, word of memory and input has a value of its own.
func start(t *testing.T) api.State {
	t.Helper()
	s, e := seq.New(50, 51, 52)
	if e != api.OK {
		t.Fatalf("New: %d", e)
	}
	for i := range s.Regs {
		s.Regs[i] = uint32(100 + i)
	}
	for i := range s.Mem {
		s.Mem[i] = uint32(1000 + i)
	}
	s.Taken, s.Out, s.PC, s.Stack = 1, []uint32{7, 8}, 5, []int{3, 9}
	return s
}

// busy is such a state with results on their way, and a jump.
func busy(t *testing.T) api.State {
	t.Helper()
	s := start(t)
	s.Fly = []api.Write{{Reg: 12, Value: 70, Left: 2}, {Reg: 13, Value: 71}, {Reg: 14, Value: 72, Left: 1}, {Reg: 13, Value: 73}, {Reg: 12, Value: 74, Left: 4}}
	s.Jump, s.Delay = 30, 2
	return s
}

// stumbled is busy behind (1) of a cycle that has a hazard.
func stumbled(t *testing.T) api.State {
	t.Helper()
	s := busy(t)
	s.Regs[13] = 73
	s.Fly = []api.Write{{Reg: 12, Value: 70, Left: 1}, {Reg: 14, Value: 72}, {Reg: 12, Value: 74, Left: 3}}
	s.Stop = api.StopHazard
	return s
}

// code has the bundle at place 5, and others around it whose hazards would be seen.
func code(b api.Bundle) []api.Bundle {
	c := slices.Repeat([]api.Bundle{{2: {Op: api.OpOut, A: 12}}}, 10)
	c[5] = b
	return c
}

// show tells a state in full; a nil list and an empty one are one.
func show(s api.State) string { return fmt.Sprintf("%+v", s) }

func isZero(s api.State) bool { return show(s) == show(api.State{}) }

// instruction has the operands of the op's form; the rest is nought.
func instruction(op, d, a, b, n int) api.Ins {
	x := api.Ins{Op: op}
	form, _ := isa.Form(op)
	switch form {
	case api.FormThree:
		x.D, x.A, x.B = d, a, b
	case api.FormTwo:
		x.D, x.A = d, a
	case api.FormAdd:
		x.D, x.A, x.Imm = d, a, n
	case api.FormLoad:
		x.D, x.Imm = d, n
	case api.FormStore:
		x.A, x.B, x.Imm = a, b, n
	case api.FormIn:
		x.D = d
	case api.FormOut:
		x.A = a
	case api.FormJump:
		x.Imm = n
	case api.FormBranch:
		x.A, x.Imm = a, n
	}
	return x
}

// is asks all three calls: whether the first hazard of the bundle that comes is in that slot (-1: none), and what a cycle makes of it.
func is(t *testing.T, name string, c []api.Bundle, s api.State, slot int) {
	t.Helper()
	was := show(s)
	if n, e := Find(c, s); n != slot || e != api.OK {
		t.Errorf("%s: found %d, %d; want %d", name, n, e, slot)
	}
	want, e := pipe.Cycle(c, s)
	if slot >= 0 {
		// Behind the end pipe does (1), and no more.
		want, e = pipe.Cycle(nil, s)
		want.Stop = api.StopHazard
	}
	x, f := Cycle(c, s)
	y, n, g := Run(c, s, 1)
	if show(x) != show(want) || show(y) != show(want) || e != api.OK || f != api.OK || g != api.OK {
		t.Errorf("%s: %+v, %d, %+v, %d; want %+v", name, x, f, y, g, want)
	}
	if s.Stop == api.StopNone && n != 1 || s.Stop != api.StopNone && n != 0 {
		t.Errorf("%s: %d cycles", name, n)
	}
	if pipe.Check(x) != api.OK || show(s) != was {
		t.Errorf("%s: told %+v; handed in %s, now %+v", name, x, was, s)
	}
}

// P7.1: each op, by each of its slots and operands: it reads or writes a register to which something flies, or does not; what has just come flies no more.
func TestWhatFlies(t *testing.T) {
	count := 0
	for op := range api.OpHalt + 1 {
		form, _ := isa.Form(op)
		slots, _ := isa.Slots(op)
		x := instruction(op, 1, 2, 3, 4)
		has := map[int]bool{1: false, 2: false, 3: false, 0: false, 15: false}
		switch form {
		case api.FormThree:
			has[1], has[2], has[3] = true, true, true
		case api.FormTwo, api.FormAdd:
			has[1], has[2] = true, true
		case api.FormLoad, api.FormIn:
			has[1] = true
		case api.FormStore:
			has[2], has[3] = true, true
		case api.FormOut, api.FormBranch:
			has[2] = true
		}
		for _, slot := range slots {
			for r, bad := range has {
				for left := range api.Latest + 1 {
					var b api.Bundle
					b[slot] = x
					s := start(t)
					s.Regs[3] = 1
					s.Fly = []api.Write{{Reg: 9, Left: 4}, {Reg: r, Value: 5, Left: left}, {Reg: 9}}
					want := -1
					if bad && left > 0 {
						want = slot
					}
					is(t, fmt.Sprintf("op %d in %d, r%d, left %d", op, slot, r, left), code(b), s, want)
					count++
				}
			}
		}
	}
	if count < 34*25 {
		t.Errorf("%d cases", count)
	}
}

// P7.1: a nop reads and writes nothing; register 0 is one like the others.
func TestRegisterNought(t *testing.T) {
	s := start(t)
	s.Fly = []api.Write{{Reg: 0, Left: 1}}
	is(t, "nops", code(api.Bundle{}), s, -1)
	is(t, "jmp", code(api.Bundle{{Op: api.OpJmp}}), s, -1)
	is(t, "out", code(api.Bundle{2: {Op: api.OpOut}}), s, 2)
	is(t, "li", code(api.Bundle{1: {Op: api.OpLi}}), s, 1)
	is(t, "two li", code(api.Bundle{{Op: api.OpLi}, {Op: api.OpLi}}), start(t), 1)
	is(t, "out and nops", code(api.Bundle{2: {Op: api.OpOut, A: 1}}), s, -1)
}

// P7.1: two slots that write one register: the one behind; what they read of each other is none, nor is a store or an out behind a write.
func TestSlotsAhead(t *testing.T) {
	li := func(d int) api.Ins { return api.Ins{Op: api.OpLi, D: d, Imm: 6} }
	mul := func(d, a, b int) api.Ins { return api.Ins{Op: api.OpMul, D: d, A: a, B: b} }
	ld := func(d int) api.Ins { return api.Ins{Op: api.OpLd, D: d, A: 9, Imm: -109} }
	for i, c := range []struct {
		b    api.Bundle
		want int
	}{
		{api.Bundle{li(1), li(1)}, 1},
		{api.Bundle{li(1), {}, ld(1)}, 2},
		{api.Bundle{li(1), {}, {}, mul(1, 2, 3)}, 3},
		{api.Bundle{{}, li(1), ld(1)}, 2},
		{api.Bundle{{}, li(1), {}, mul(1, 2, 3)}, 3},
		{api.Bundle{{}, {}, ld(1), mul(1, 2, 3)}, 3},
		{api.Bundle{li(1), li(1), ld(1), mul(1, 2, 3)}, 1},
		{api.Bundle{li(1), li(2), ld(2), mul(1, 2, 3)}, 2},
		{api.Bundle{li(1), li(2), ld(3), mul(2, 2, 3)}, 3},
		{api.Bundle{li(1), li(2), ld(3), mul(4, 2, 3)}, -1},
		{api.Bundle{li(15), li(15)}, 1},
		{api.Bundle{li(1), {Op: api.OpAddi, D: 2, A: 1}, {Op: api.OpOut, A: 1}, mul(3, 1, 2)}, -1},
		{api.Bundle{li(1), {Op: api.OpAddi, D: 2, A: 1}, {Op: api.OpSt, A: 9, B: 1, Imm: -109}, mul(3, 2, 2)}, -1},
		{api.Bundle{{Op: api.OpAddi, D: 1, A: 2}, {Op: api.OpAddi, D: 2, A: 1}}, -1},
		{api.Bundle{{Op: api.OpAdd, D: 1, A: 1, B: 1}}, -1},
		{api.Bundle{{Op: api.OpBz, A: 1, Imm: 3}, li(1), ld(2), mul(1, 1, 1)}, 3},
		{api.Bundle{{Op: api.OpBz, A: 1, Imm: 3}, li(1), ld(2), mul(3, 1, 1)}, -1},
	} {
		is(t, fmt.Sprint("bundle ", i), code(c.b), start(t), c.want)
	}
}

// P7.1: of several hazards the least slot's is told, whatever its kind.
func TestFirstOfSeveral(t *testing.T) {
	li := func(d int) api.Ins { return api.Ins{Op: api.OpLi, D: d} }
	out := api.Ins{Op: api.OpOut, A: 1}
	for i, c := range []struct {
		b     api.Bundle
		reg   int
		delay int
		want  int
	}{
		{api.Bundle{li(2), li(2), out}, 1, 0, 1},
		{api.Bundle{li(2), li(3), out, {Op: api.OpMul, D: 2}}, 1, 0, 2},
		{api.Bundle{li(1), li(2), out, {Op: api.OpMul, D: 2}}, 1, 0, 0},
		{api.Bundle{{Op: api.OpJmp}, li(1), out}, 1, 1, 0},
		{api.Bundle{{Op: api.OpJmp}, li(1), out}, 1, 0, 1},
		{api.Bundle{{Op: api.OpBz, A: 2}, li(2), out, {Op: api.OpMul, D: 2}}, 5, 1, 0},
		{api.Bundle{{Op: api.OpHalt}, {}, out}, 1, 0, 2},
		{api.Bundle{{Op: api.OpHalt}, {}, out}, 1, 2, 0},
		{api.Bundle{{Op: api.OpHalt}, li(2), out, {Op: api.OpDiv, D: 2}}, 5, 0, 3},
		{api.Bundle{{}, {}, {Op: api.OpLd, D: 2, A: 3, Imm: -1}, {Op: api.OpMul, D: 4, A: 1}}, 1, 0, 3},
	} {
		s := start(t)
		s.Fly = []api.Write{{Reg: c.reg, Left: 3}}
		s.Jump, s.Delay = 8, c.delay
		is(t, fmt.Sprint("bundle ", i), code(c.b), s, c.want)
	}
}

// P7.1: a slot that may jump, or halts, while a jump's delay lasts, taken or not; another one does as ever.
func TestDelay(t *testing.T) {
	for op := range api.OpHalt + 1 {
		slots, _ := isa.Slots(op)
		for _, slot := range slots {
			for delay := range api.Delay + 1 {
				for _, a := range []uint32{0, 1} {
					s := start(t)
					s.Regs[2], s.Jump, s.Delay = a, 9, delay
					s.Regs[3] = 1
					var b api.Bundle
					b[slot] = instruction(op, 1, 2, 3, 4)
					want := -1
					if op >= api.OpJmp && delay > 0 {
						want = slot
					}
					is(t, fmt.Sprintf("op %d in %d, delay %d", op, slot, delay), code(b), s, want)
				}
			}
		}
	}
	// A place to jump to without a delay is none.
	s := start(t)
	s.Jump = 30
	is(t, "no delay", code(api.Bundle{{Op: api.OpHalt}}), s, -1)
}

// P7.1: with a hazard what comes is written, in order, the rest is one nearer, and nothing else is done, whatever the other slots would.
func TestNothingElse(t *testing.T) {
	s := busy(t)
	for i, b := range []api.Bundle{
		{{Op: api.OpJmp, Imm: 1}, {Op: api.OpLi, D: 1}, {Op: api.OpOut, A: 1}, {Op: api.OpMul, D: 2}},
		{{Op: api.OpLi, D: 1}, {Op: api.OpLi, D: 1}, {Op: api.OpIn, D: 2}},
		{{Op: api.OpLi, D: 1}, {}, {Op: api.OpSt, A: 12, B: 1}, {Op: api.OpDiv, D: 3, B: 4}},
		{{Op: api.OpLi, D: 1}, {}, {Op: api.OpLd, D: 2, A: 0, Imm: -1000}, {Op: api.OpRem, D: 14}},
		{{Op: api.OpLi, D: 1}, {}, {Op: api.OpOut, A: 1}, {Op: api.OpMul, D: 3, A: 1, B: 12}},
		{{Op: api.OpCall, Imm: 1}},
		{{Op: api.OpRet}},
		{{Op: api.OpHalt}},
	} {
		x, e := Cycle(code(b), s)
		y, n, f := Run(code(b), s, 9)
		if want := show(stumbled(t)); show(x) != want || show(y) != want || n != 1 || e != api.OK || f != api.OK {
			t.Errorf("%d: %+v, %d, %+v, %d, %d", i, x, e, y, n, f)
		}
		// One that has stopped stays as it is.
		again, e := Cycle(code(b), x)
		rest, n, f := Run(code(b), x, 9)
		if show(again) != show(x) || show(rest) != show(x) || n != 0 || e != api.OK || f != api.OK {
			t.Errorf("%d: %+v, %d, %+v, %d, %d", i, again, e, rest, n, f)
		}
	}
}

// P7.1: no hazard of one that has stopped, or where no bundle is.
func TestNoBundle(t *testing.T) {
	bad := code(api.Bundle{{Op: api.OpJmp}})
	for stop := range api.StopHazard + 1 {
		s := busy(t)
		s.Stop = stop
		want := -1
		if stop == api.StopNone {
			want = 0
		}
		is(t, fmt.Sprint("stop ", stop), bad, s, want)
	}
	for _, pc := range []int{10, 11, 1024} {
		s := busy(t)
		s.PC = pc
		is(t, fmt.Sprint("at ", pc), bad, s, -1)
		is(t, fmt.Sprint("without code, at ", pc), nil, s, -1)
		if x, e := Cycle(bad, s); x.Stop != api.StopCode || x.PC != pc || e != api.OK {
			t.Errorf("at %d: %+v, %d", pc, x, e)
		}
	}
	s := busy(t)
	s.PC = 9
	is(t, "the last one", bad, s, 2)
	s.PC = 0
	is(t, "the first one", bad, s, 2)
	is(t, "no code", nil, s, -1)
}

// wrong tells code and states that may not be.
func wrong(t *testing.T) (codes [][]api.Bundle, states []api.State) {
	for _, b := range []api.Bundle{
		{{Op: -1}},
		{{Op: api.OpHalt + 1}},
		{{Op: api.OpMul}},
		{3: {Op: api.OpLi}},
		{{Op: api.OpLi, D: 16}},
		{2: {Op: api.OpOut, A: -1}},
		{2: {Op: api.OpLd, Imm: 8192}},
		{{Op: api.OpLi, Sym: "a"}},
		{{D: 1}},
	} {
		codes = append(codes, code(b), append(code(api.Bundle{}), b))
	}
	codes = append(codes, make([]api.Bundle, 1025))
	for _, do := range []func(s *api.State){
		func(s *api.State) { *s = api.State{} },
		func(s *api.State) { s.Regs = s.Regs[:15] },
		func(s *api.State) { s.Mem = s.Mem[:255] },
		func(s *api.State) { s.In = make([]uint32, 101) },
		func(s *api.State) { s.Taken = 4 },
		func(s *api.State) { s.PC = -1 },
		func(s *api.State) { s.PC = 1025 },
		func(s *api.State) { s.PC = math.MinInt },
		func(s *api.State) { s.Stack = []int{1025} },
		func(s *api.State) { s.Stack = make([]int, 17) },
		func(s *api.State) { s.Stop = -1 },
		func(s *api.State) { s.Stop = 7 },
		func(s *api.State) { s.Fly = []api.Write{{Reg: 16}} },
		func(s *api.State) { s.Fly = []api.Write{{Reg: -1, Left: 1}} },
		func(s *api.State) { s.Fly = []api.Write{{Left: 5}} },
		func(s *api.State) { s.Fly = []api.Write{{Left: -1}} },
		func(s *api.State) { s.Fly = make([]api.Write, 21) },
		func(s *api.State) { s.Fly = slices.Repeat([]api.Write{{Left: 4}}, 5) },
		func(s *api.State) { s.Jump = 1025 },
		func(s *api.State) { s.Jump = -1 },
		func(s *api.State) { s.Delay = 3 },
		func(s *api.State) { s.Delay = -1 },
	} {
		s := busy(t)
		do(&s)
		states = append(states, s)
		if s.Stop == api.StopNone {
			s.Stop = api.StopHazard
			states = append(states, s)
		}
	}
	return codes, states
}

// P7.1: code and states that may not be, by all three calls: ErrForm, and nothing beside it.
func TestWrong(t *testing.T) {
	refuse := func(name string, c []api.Bundle, s api.State) {
		slot, e := Find(c, s)
		x, f := Cycle(c, s)
		y, n, g := Run(c, s, 0)
		if slot != 0 || n != 0 || !isZero(x) || !isZero(y) || e != api.ErrForm || f != api.ErrForm || g != api.ErrForm {
			t.Errorf("%s: %d, %d, %+v, %d, %+v, %d, %d", name, slot, e, x, f, y, n, g)
		}
	}
	codes, states := wrong(t)
	for i, c := range codes {
		s := start(t)
		refuse(fmt.Sprint("code ", i), c, s)
		s.Stop = api.StopHalt
		refuse(fmt.Sprint("code of one that has stopped ", i), c, s)
		s.Stop, s.PC = api.StopNone, 1024
		refuse(fmt.Sprint("code that ends ahead ", i), c, s)
	}
	for i, s := range states {
		refuse(fmt.Sprint("state ", i), code(api.Bundle{}), s)
		refuse(fmt.Sprint("state without code ", i), nil, s)
	}
}

// P7.1: how many cycles may be asked for, and are done; the one with the hazard counts.
func TestHowManyCycles(t *testing.T) {
	forever := []api.Bundle{{{Op: api.OpJmp}}, {}, {}}
	for n, may := range map[int]bool{math.MinInt: false, -1: false, 0: true, 1: true, 19999: true, 20000: true, 20001: false, math.MaxInt: false} {
		s := start(t)
		s.PC = 0
		x, done, e := Run(forever, s, n)
		if may && (x.PC != n%3 || x.Stop != api.StopNone || done != n || e != api.OK) || !may && (!isZero(x) || done != 0 || e != api.ErrForm) {
			t.Errorf("%d cycles: %+v, %d, %d", n, x, done, e)
		}
		s.Stop = api.StopHazard
		if x, done, e := Run(forever, s, n); (e == api.OK) != may || done != 0 || !may && !isZero(x) {
			t.Errorf("%d cycles of what has stopped: %+v, %d, %d", n, x, done, e)
		}
	}
	c := []api.Bundle{{2: {Op: api.OpLd, D: 1}}, {}, {2: {Op: api.OpOut, A: 1}}, {}}
	s := start(t)
	s.PC, s.Regs[0] = 0, 0
	for n := range 6 {
		x, done, e := Run(c, s, n)
		if done != min(n, 3) || (x.Stop == api.StopHazard) != (n >= 3) || x.PC != min(n, 2) || e != api.OK {
			t.Errorf("%d: %+v, %d, %d", n, x, done, e)
		}
	}
	// One bundle later the load is there.
	c = slices.Insert(c, 1, api.Bundle{})
	if x, done, e := Run(c, s, 9); done != 6 || x.Stop != api.StopCode || !slices.Equal(x.Out, []uint32{7, 8, 1000}) || e != api.OK {
		t.Errorf("%+v, %d, %d", x, done, e)
	}
}

// chance tells numbers that look like any, the same ones each time.
type chance uint64

func (c *chance) below(n int) int {
	*c = *c*6364136223846793005 + 1442695040888963407
	return int(uint64(*c)>>33) % n
}

// someCode has any instructions, each slot those that may stand there; every so many slots are nops.
func someCode(c *chance, spare int) []api.Bundle {
	code := make([]api.Bundle, 40)
	for i := range code {
		for slot := range code[i] {
			x := instruction(c.below(api.OpHalt+1), c.below(16), c.below(16), c.below(16), c.below(44))
			if isa.May(x.Op, slot) && c.below(spare) == 0 {
				code[i][slot] = x
			}
		}
	}
	return code
}

// hazardOf says the chapter's words one by one, slot by slot; what flies is asked of the state as it is ahead of (1).
func hazardOf(c []api.Bundle, s api.State) int {
	if s.Stop != api.StopNone || s.PC >= len(c) {
		return -1
	}
	flies := func(r int) bool {
		return slices.ContainsFunc(s.Fly, func(w api.Write) bool { return w.Reg == r && w.Left > 0 })
	}
	b := c[s.PC]
	for slot, x := range b {
		read, _ := isa.Reads(x)
		if slices.ContainsFunc(read, flies) {
			return slot
		}
		if d, e := isa.Writes(x); e == api.OK {
			twice := slices.ContainsFunc(b[:slot], func(y api.Ins) bool { r, e := isa.Writes(y); return e == api.OK && r == d })
			if twice || flies(d) {
				return slot
			}
		}
		if x.Op >= api.OpJmp && x.Op <= api.OpHalt && s.Delay > 0 {
			return slot
		}
	}
	return -1
}

// P7.1, P7.2: any code: up to its first hazard it is pipe's run, and Run is cycle by cycle; n, then m is both.
func TestAsPipe(t *testing.T) {
	c, stops, longest, slots := chance(3), map[int]int{}, 0, map[int]int{}
	for round := range 1000 {
		code := someCode(&c, 1+round%7)
		s := busy(t)
		s.PC = 0
		was, kept := show(s), slices.Clone(code)
		n, m := c.below(40), c.below(40)
		whole, both, e := Run(code, s, n+m)
		first, k, f := Run(code, s, n)
		second, l, g := Run(code, first, m)
		if show(second) != show(whole) || k+l != both || e != api.OK || f != api.OK || g != api.OK {
			t.Fatalf("round %d: %+v, %d and %d, not %+v, %d", round, second, k, l, whole, both)
		}
		single := s
		for i := range both {
			slot := hazardOf(code, single)
			is(t, fmt.Sprintf("round %d, cycle %d", round, i), code, single, slot)
			slots[slot]++
			single, _ = Cycle(code, single)
		}
		if show(single) != show(whole) || both < n+m && whole.Stop == api.StopNone {
			t.Fatalf("round %d: %+v, not %+v", round, single, whole)
		}
		cut := both
		if whole.Stop == api.StopHazard {
			cut--
		}
		a, i, _ := Run(code, s, cut)
		b, j, _ := pipe.Run(code, s, cut)
		if show(a) != show(b) || i != cut || j != cut {
			t.Fatalf("round %d: %+v, not %+v", round, a, b)
		}
		if show(s) != was || !slices.Equal(code, kept) {
			t.Fatalf("round %d: what was handed in has changed", round)
		}
		stops[whole.Stop]++
		longest = max(longest, both)
	}
	for stop := range api.StopHazard + 1 {
		if stops[stop] == 0 {
			t.Errorf("no run stopped by %d: %v", stop, stops)
		}
	}
	for slot := -1; slot < 4; slot++ {
		if slots[slot] == 0 {
			t.Errorf("no hazard in slot %d: %v", slot, slots)
		}
	}
	if longest < 30 {
		t.Errorf("longest: %d", longest)
	}
}

// scratch writes into all that a state has, spare room too.
func scratch(s api.State) {
	for _, l := range [][]uint32{s.Regs, s.Mem, s.In, s.Out} {
		for i := range l[:cap(l)] {
			l[:cap(l)][i] = 77
		}
	}
	for i := range s.Stack[:cap(s.Stack)] {
		s.Stack[:cap(s.Stack)][i] = 77
	}
	for i := range s.Fly[:cap(s.Fly)] {
		s.Fly[:cap(s.Fly)][i] = api.Write{Reg: 7, Value: 77, Left: 7}
	}
}

// roomy is a state whose lists have spare room.
func roomy(t *testing.T) api.State {
	t.Helper()
	s := busy(t)
	s.PC = 0
	s.In = append(make([]uint32, 0, 20), s.In...)
	s.Out = append(make([]uint32, 0, 20), s.Out...)
	s.Stack = append(make([]int, 0, 20), s.Stack...)
	s.Fly = append(make([]api.Write, 0, 20), s.Fly...)
	return s
}

// rooms tells what stands in a state's lists, spare room too.
func rooms(s api.State) string {
	return fmt.Sprint(s.Regs[:cap(s.Regs)], s.Mem[:cap(s.Mem)], s.In[:cap(s.In)], s.Out[:cap(s.Out)], s.Stack[:cap(s.Stack)], s.Fly[:cap(s.Fly)])
}

// R2: nothing that is handed in is written into or kept, spare room too; also by Find.
func TestNothingIsShared(t *testing.T) {
	calls := []api.Bundle{
		{{Op: api.OpLi, D: 1}, {}, {Op: api.OpOut, A: 1}, {Op: api.OpMul}},
		{{Op: api.OpLi, D: 1}, {}, {Op: api.OpIn, D: 3}, {Op: api.OpCmul, D: 4}},
		{2: {Op: api.OpOut, A: 12}},
	}
	for _, c := range [][]api.Bundle{nil, calls} {
		for n := range 5 {
			for _, stop := range []int{api.StopNone, api.StopHazard} {
				s := roomy(t)
				s.Stop = stop
				was := rooms(s)
				x, _, e := Run(c, s, n)
				if _, f := Find(c, s); e != api.OK || f != api.OK || rooms(s) != was {
					t.Errorf("%d cycles: %d, %d, wrote into what was handed in: %s", n, e, f, rooms(s))
				}
				told := show(x)
				scratch(s)
				if show(x) != told {
					t.Errorf("%d cycles: what was told has changed", n)
				}
				again := roomy(t)
				again.Stop = stop
				x, _, _ = Run(c, again, n)
				scratch(x)
				if rooms(again) != was {
					t.Errorf("%d cycles: what was handed in has changed", n)
				}
			}
		}
	}
}
