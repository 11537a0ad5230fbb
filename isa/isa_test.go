package isa

import (
	"math"
	"slices"
	"strings"
	"testing"

	"sledge/api"
)

// table is the chapter's, a line an op.
const table = `nop | FormNone | 1 | 0, 1, 2, 3
add | FormThree | 1 | 0, 1
sub | FormThree | 1 | 0, 1
and | FormThree | 1 | 0, 1
or | FormThree | 1 | 0, 1
xor | FormThree | 1 | 0, 1
shl | FormThree | 1 | 0, 1
shr | FormThree | 1 | 0, 1
sar | FormThree | 1 | 0, 1
slt | FormThree | 1 | 0, 1
sltu | FormThree | 1 | 0, 1
eq | FormThree | 1 | 0, 1
min | FormThree | 1 | 0, 1
max | FormThree | 1 | 0, 1
mul | FormThree | 2 | 3
mulh | FormThree | 2 | 3
div | FormThree | 4 | 3
rem | FormThree | 4 | 3
cadd | FormThree | 1 | 1
csub | FormThree | 1 | 1
cmul | FormThree | 3 | 3
conj | FormTwo | 1 | 1
addi | FormAdd | 1 | 0, 1
li | FormLoad | 1 | 0, 1
ld | FormAdd | 3 | 2
st | FormStore | 1 | 2
in | FormIn | 2 | 2
out | FormOut | 1 | 2
jmp | FormJump | 1 | 0
bz | FormBranch | 1 | 0
bnz | FormBranch | 1 | 0
call | FormJump | 1 | 0
ret | FormNone | 1 | 0
halt | FormNone | 1 | 0`

var formNames = []string{"FormNone", "FormThree", "FormTwo", "FormAdd", "FormLoad", "FormStore", "FormIn", "FormOut", "FormJump", "FormBranch"}

func lines() [][]string {
	var all [][]string
	for _, l := range strings.Split(table, "\n") {
		all = append(all, strings.Split(l, " | "))
	}
	return all
}

var noOps = []int{-1, -2, api.OpHalt + 1, 100, math.MinInt, math.MaxInt}

var slotsAround = []int{math.MinInt, -64, -1, 0, 1, 2, 3, 4, 5, 31, 32, 63, 64, 65, math.MaxInt}

// P3.1: each op's name, form, latency, and its name back.
func TestTable(t *testing.T) {
	all := lines()
	if len(all) != api.OpHalt+1 {
		t.Fatalf("%d lines", len(all))
	}
	for op, l := range all {
		if name, e := Name(op); name != l[0] || e != api.OK {
			t.Errorf("Name(%d): %q, %d", op, name, e)
		}
		if form, e := Form(op); e != api.OK || formNames[form] != l[1] {
			t.Errorf("Form(%s): %d, %d", l[0], form, e)
		}
		if late, e := Latency(op); late != int(l[2][0]-'0') || e != api.OK {
			t.Errorf("Latency(%s): %d, %d", l[0], late, e)
		}
		if back, e := Op(l[0]); back != op || e != api.OK {
			t.Errorf("Op(%s): %d, %d", l[0], back, e)
		}
	}
}

// P3.1: api's names are the table's.
func TestNamesOfApi(t *testing.T) {
	for name, op := range map[string]int{"nop": api.OpNop, "sltu": api.OpSltu, "mulh": api.OpMulh, "cadd": api.OpCadd, "conj": api.OpConj, "addi": api.OpAddi, "li": api.OpLi, "ld": api.OpLd, "st": api.OpSt, "in": api.OpIn, "out": api.OpOut, "jmp": api.OpJmp, "bz": api.OpBz, "bnz": api.OpBnz, "call": api.OpCall, "ret": api.OpRet, "halt": api.OpHalt} {
		if x, e := Op(name); x != op || e != api.OK {
			t.Errorf("%s: %d, %d", name, x, e)
		}
	}
}

// P3.1, P3.3: what is no op has neither row nor slots, and no name is near enough.
func TestNoOps(t *testing.T) {
	for _, op := range noOps {
		name, e1 := Name(op)
		form, e2 := Form(op)
		late, e3 := Latency(op)
		slots, e4 := Slots(op)
		if name != "" || form != 0 || late != 0 || len(slots) != 0 {
			t.Errorf("%d: %q, %d, %d, %v", op, name, form, late, slots)
		}
		if e1 != api.ErrForm || e2 != api.ErrForm || e3 != api.ErrForm || e4 != api.ErrForm {
			t.Errorf("%d: %d, %d, %d, %d", op, e1, e2, e3, e4)
		}
		if Ends(op) || Effect(op) {
			t.Errorf("%d: %v, %v", op, Ends(op), Effect(op))
		}
		for _, slot := range slotsAround {
			if May(op, slot) {
				t.Errorf("%d may stand in %d", op, slot)
			}
		}
	}
	for _, s := range []string{"", " ", "n", "no", "nopp", "Nop", "HALT", " add", "add ", "add,", "r0", "mov", "ad\x00", "add\n", "é"} {
		if op, e := Op(s); op != 0 || e != api.ErrNone {
			t.Errorf("%q: %d, %d", s, op, e)
		}
	}
}

// P3.1, P3.3: May and Slots tell the table's slots.
func TestSlots(t *testing.T) {
	for op, l := range lines() {
		for _, slot := range slotsAround {
			want := slot >= 0 && slot < 10 && strings.Contains(l[3], string(rune('0'+slot)))
			if May(op, slot) != want {
				t.Errorf("May(%s, %d): %v", l[0], slot, !want)
			}
		}
		var want []int
		for _, s := range strings.Split(l[3], ", ") {
			want = append(want, int(s[0]-'0'))
		}
		if slots, e := Slots(op); !slices.Equal(slots, want) || e != api.OK {
			t.Errorf("Slots(%s): %v, %d", l[0], slots, e)
		}
	}
}

// P3.1: which ops end a block, and which do more.
func TestEndsEffect(t *testing.T) {
	ends := strings.Fields("jmp bz bnz call ret halt")
	effects := strings.Fields("div rem ld st in out call ret halt")
	for op, l := range lines() {
		if Ends(op) != slices.Contains(ends, l[0]) {
			t.Errorf("Ends(%s): %v", l[0], Ends(op))
		}
		if Effect(op) != slices.Contains(effects, l[0]) {
			t.Errorf("Effect(%s): %v", l[0], Effect(op))
		}
	}
}

// fields says which of D, A, B the form has, and the least and the greatest Imm.
func fields(form string) (regs string, low, high int) {
	switch form {
	case "FormThree":
		return "DAB", 0, 0
	case "FormTwo":
		return "DA", 0, 0
	case "FormAdd":
		return "DA", -8192, 8191
	case "FormLoad":
		return "D", -131072, 131071
	case "FormStore":
		return "AB", -8192, 8191
	case "FormIn":
		return "D", 0, 0
	case "FormOut":
		return "A", 0, 0
	case "FormJump":
		return "", 0, 1023
	case "FormBranch":
		return "A", 0, 1023
	}
	return "", 0, 0
}

var numbers = []int{math.MinInt, -1 << 32, -131073, -131072, -8193, -8192, -1024, -16, -1, 0, 1, 2, 14, 15, 16, 17, 1022, 1023, 1024, 8191, 8192, 131071, 131072, 1 << 32, math.MaxInt}

// same tells whether every call says of x what it must: that it may be, or that it may not.
func same(t *testing.T, x api.Ins, may bool) {
	t.Helper()
	want := api.ErrForm
	if may {
		want = api.OK
	}
	text, e1 := Text(x)
	regs, e2 := Reads(x)
	d, e3 := Writes(x)
	if may && e3 == api.ErrNone {
		e3 = api.OK
	}
	if e := Check(x); e != want || e1 != want || e2 != want || e3 != want {
		t.Errorf("%+v: %d, %d, %d, %d, not %d", x, e, e1, e2, e3, want)
	}
	if !may && (text != "" || len(regs) != 0 || d != 0) {
		t.Errorf("%+v: %q, %v, %d beside an error", x, text, regs, d)
	}
}

func inside(n int, has bool) bool { return has && n >= 0 && n <= 15 || n == 0 }

// P3.2: each field of each op, at its edges and beyond.
func TestCheckFields(t *testing.T) {
	for op, l := range lines() {
		regs, low, high := fields(l[1])
		for _, n := range numbers {
			same(t, api.Ins{Op: op, D: n}, inside(n, strings.Contains(regs, "D")))
			same(t, api.Ins{Op: op, A: n}, inside(n, strings.Contains(regs, "A")))
			same(t, api.Ins{Op: op, B: n}, inside(n, strings.Contains(regs, "B")))
			same(t, api.Ins{Op: op, Imm: n}, n >= low && n <= high)
		}
	}
	for _, op := range noOps {
		same(t, api.Ins{Op: op}, false)
		same(t, api.Ins{Op: op, Sym: "a"}, false)
	}
}

var names = []string{"a", "z", "_", "__", "_0", "a0", "a9", "z_z", "loop_1", "abcdefghijkl", "____________"}

var noNames = []string{"0", "9a", "A", "Z", "aB", "a b", " a", "a ", "a-b", "a+1", "a.", ".a", "@", "a@", "[", "a`", "a{", "a/", "a:", "é", "aé", "a\x00", "a\xff", "abcdefghijklm", "_____________", strings.Repeat("a", 5000)}

// P3.2: who may have a symbol, and with which Imm.
func TestCheckSyms(t *testing.T) {
	for op, l := range lines() {
		target := l[1] == "FormJump" || l[1] == "FormBranch"
		for _, s := range names {
			same(t, api.Ins{Op: op, Sym: s}, target || l[0] == "li")
			for _, n := range numbers {
				low, high := 0, -1
				if l[0] == "li" {
					low, high = -131072, 131071
				} else if target {
					high = 0
				}
				same(t, api.Ins{Op: op, Imm: n, Sym: s}, n >= low && n <= high)
			}
		}
		for _, s := range noNames {
			same(t, api.Ins{Op: op, Sym: s}, false)
		}
	}
}

// P3.3: names, and what is just none.
func TestName2(t *testing.T) {
	for _, s := range names {
		if !Name2(s) {
			t.Errorf("%q is a name", s)
		}
	}
	for _, s := range append(noNames, "") {
		if Name2(s) {
			t.Errorf("%q is no name", s)
		}
	}
	for c := range 256 {
		letter := c >= 'a' && c <= 'z' || c == '_'
		if s := string([]byte{byte(c)}); Name2(s) != letter {
			t.Errorf("%q: %v", s, !letter)
		}
		want := letter || c >= '0' && c <= '9'
		for _, s := range []string{"a" + string([]byte{byte(c)}), "_b" + string([]byte{byte(c)}) + "c"} {
			if Name2(s) != want {
				t.Errorf("%q: %v", s, !want)
			}
		}
	}
}

// P3.2: what is read and written, and in which order.
func TestReadsWrites(t *testing.T) {
	for op, l := range lines() {
		regs, _, _ := fields(l[1])
		x := api.Ins{Op: op}
		var want []int
		if strings.Contains(regs, "A") {
			x.A, want = 9, append(want, 9)
		}
		if strings.Contains(regs, "B") {
			x.B, want = 3, append(want, 3)
		}
		d, e := 0, api.ErrNone
		if strings.Contains(regs, "D") {
			x.D, d, e = 12, 12, api.OK
		}
		if r, f := Reads(x); !slices.Equal(r, want) || f != api.OK {
			t.Errorf("Reads(%s): %v, %d", l[0], r, f)
		}
		if w, f := Writes(x); w != d || f != e {
			t.Errorf("Writes(%s): %d, %d", l[0], w, f)
		}
	}
	if r, e := Reads(api.Ins{Op: api.OpAdd, A: 7, B: 7}); !slices.Equal(r, []int{7, 7}) || e != api.OK {
		t.Errorf("both of one: %v, %d", r, e)
	}
	if d, e := Writes(api.Ins{Op: api.OpAdd}); d != 0 || e != api.OK {
		t.Errorf("r0: %d, %d", d, e)
	}
}

// P3.2: a text of each form, and of each way that Imm is written.
func TestText(t *testing.T) {
	for _, c := range []struct {
		x    api.Ins
		text string
	}{
		{api.Ins{}, "nop"},
		{api.Ins{Op: api.OpRet}, "ret"},
		{api.Ins{Op: api.OpHalt}, "halt"},
		{api.Ins{Op: api.OpSltu, D: 1, A: 2, B: 3}, "sltu r1, r2, r3"},
		{api.Ins{Op: api.OpCmul, D: 15, A: 10, B: 0}, "cmul r15, r10, r0"},
		{api.Ins{Op: api.OpConj, D: 4, A: 5}, "conj r4, r5"},
		{api.Ins{Op: api.OpAddi, D: 1, A: 2}, "addi r1, r2, 0"},
		{api.Ins{Op: api.OpAddi, D: 1, A: 2, Imm: -8192}, "addi r1, r2, -8192"},
		{api.Ins{Op: api.OpLd, D: 1, A: 2, Imm: 8191}, "ld r1, r2, 8191"},
		{api.Ins{Op: api.OpLi, D: 3, Imm: -131072}, "li r3, -131072"},
		{api.Ins{Op: api.OpLi, D: 3, Sym: "a_1"}, "li r3, a_1"},
		{api.Ins{Op: api.OpLi, D: 3, Imm: 131071, Sym: "a"}, "li r3, a+131071"},
		{api.Ins{Op: api.OpLi, D: 3, Imm: 1, Sym: "a"}, "li r3, a+1"},
		{api.Ins{Op: api.OpLi, D: 3, Imm: -1, Sym: "a"}, "li r3, a-1"},
		{api.Ins{Op: api.OpSt, A: 2, B: 1, Imm: 4}, "st r1, r2, 4"},
		{api.Ins{Op: api.OpSt, A: 14, B: 13}, "st r13, r14, 0"},
		{api.Ins{Op: api.OpIn, D: 9}, "in r9"},
		{api.Ins{Op: api.OpOut, A: 11}, "out r11"},
		{api.Ins{Op: api.OpJmp, Imm: 1023}, "jmp 1023"},
		{api.Ins{Op: api.OpJmp}, "jmp 0"},
		{api.Ins{Op: api.OpCall, Sym: "f"}, "call f"},
		{api.Ins{Op: api.OpBz, A: 2, Sym: "x"}, "bz r2, x"},
		{api.Ins{Op: api.OpBnz, A: 0, Imm: 5}, "bnz r0, 5"},
	} {
		if text, e := Text(c.x); text != c.text || e != api.OK {
			t.Errorf("%+v: %q, %d, not %q", c.x, text, e, c.text)
		}
	}
}

// R2: who writes into an answer changes no later one.
func TestAnswersAreNew(t *testing.T) {
	slots, _ := Slots(api.OpNop)
	slots[0] = 7
	_ = append(slots[:1], 8)
	if again, _ := Slots(api.OpNop); !slices.Equal(again, []int{0, 1, 2, 3}) {
		t.Errorf("slots: %v", again)
	}
	x := api.Ins{Op: api.OpSt, A: 2, B: 1}
	regs, _ := Reads(x)
	regs[0] = 7
	if again, _ := Reads(x); !slices.Equal(again, []int{2, 1}) {
		t.Errorf("registers: %v", again)
	}
}
