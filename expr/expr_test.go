package expr

import (
	"math"
	"math/big"
	"slices"
	"strconv"
	"strings"
	"testing"

	"sledge/api"
	"sledge/lex"
)

// words tells the words of a line.
func words(t *testing.T, s string) []api.Token {
	t.Helper()
	l, at, e := lex.Words(s)
	if e != api.OK {
		t.Fatalf("%q: %d at %d", s, e, at)
	}
	return l
}

func constant(n int) api.Value { return api.Value{N: n} }

func place(sym string, n int) api.Value { return api.Value{Sym: sym, N: n} }

// some are names with a constant each.
func some() []api.Value {
	return []api.Value{place("two", 2), place("neg", -5), place("zero", 0), place("top", 1<<31), place("low", -1<<31), place("_9", 9)}
}

// check holds Take, Of and Number against what Take must tell.
func check(t *testing.T, names []api.Value, l []api.Token, want api.Value, n int, e api.Errno) {
	t.Helper()
	if v, k, f := Take(names, l); v != want || k != n || f != e {
		t.Errorf("%v: %v, %d, %d, not %v, %d, %d", l, v, k, f, want, n, e)
	}
	if e == api.OK && n < len(l) {
		want, e = api.Value{}, api.ErrParse
	}
	if v, f := Of(names, l); v != want || f != e {
		t.Errorf("Of %v: %v, %d, not %v, %d", l, v, f, want, e)
	}
	if e == api.OK && want.Sym != "" {
		want, e = api.Value{}, api.ErrType
	}
	if k, f := Number(names, l); k != want.N || f != e {
		t.Errorf("Number %v: %d, %d, not %d, %d", l, k, f, want.N, e)
	}
}

// wantValue is of a sum with nothing behind it.
func wantValue(t *testing.T, s string, want api.Value) {
	t.Helper()
	l := words(t, s)
	check(t, some(), l, want, len(l), api.OK)
}

func wantFault(t *testing.T, s string, e api.Errno) {
	t.Helper()
	check(t, some(), words(t, s), api.Value{}, 0, e)
}

// P9.1, P9.2: what is a constant.
func TestConstants(t *testing.T) {
	for s, n := range map[string]int{
		"0": 0, "7": 7, "0x10": 16, "2147483647": math.MaxInt32, "two": 2, "neg": -5, "zero": 0, "top": 1 << 31, "low": -1 << 31, "_9": 9,
		"2+3*4": 14, "2*3+4": 10, "(2+3)*4": 20, "2*(3+4)": 14, "2-3-4": -5, "2-(3-4)": 3, "2-3+4": 3, "2-(3+4)": -5, "2*3*4": 24, "1+2*3-4*5+6": -7,
		"-3": -3, "--3": 3, "---3": -3, "-3*-two": 6, "-(2+3)": -5, "-2+3": 1, "-2*3": -6, "2--3": 5, "2+-3": -1, "2*-3": -6, "2-(-3)": 5, "-0": 0, "-2*-3*-4": -24, "-two-two": -4, "(-2)": -2, "((7))": 7, "two*neg": -10, "neg*neg": 25, "zero*top": 0,
	} {
		wantValue(t, s, constant(n))
	}
}

// P9.1, P9.2: what is a symbol's place and a constant; Number tells ErrType of it.
func TestPlaces(t *testing.T) {
	for s, v := range map[string]api.Value{
		"a": place("a", 0), "tw": place("tw", 0), "twoo": place("twoo", 0), "_": place("_", 0), "abcdefghijkl": place("abcdefghijkl", 0), "r1": place("r1", 0), "x1f": place("x1f", 0),
		"a+5": place("a", 5), "5+a": place("a", 5), "a-5": place("a", -5), "5+a-7": place("a", -2), "a+1+1": place("a", 2), "a-1-1": place("a", -2), "1+(a+1)": place("a", 2), "(a)": place("a", 0), "(a)-(neg)": place("a", 5), "a+2*3": place("a", 6), "2*3+a": place("a", 6), "a+neg": place("a", -5), "a-top": place("a", -1<<31), "a-low": place("a", 1<<31), "a+top": place("a", 1<<31), "top+a-top-top": place("a", -1<<31), "-1+a": place("a", -1), "a--1": place("a", 1), "a+0": place("a", 0),
	} {
		wantValue(t, s, v)
	}
}

// P9.1: kinds that do not go together, also where nought would be made of them.
func TestTypes(t *testing.T) {
	for _, s := range []string{"a+b", "a+a", "a-b", "a-a", "5-a", "0-a", "-a", "--a", "-(a)", "-(a+1)", "a*1", "1*a", "a*0", "0*a", "a*a", "a*b", "2*(a+1)", "(a+1)*2", "1+2*a", "two*a", "a+1+b", "1-(a-1)", "a+(5-b)", "a*two*top*top"} {
		wantFault(t, s, api.ErrType)
	}
}

// P9.1: constants up to the bounds, and just beyond, of places too.
func TestRanges(t *testing.T) {
	for s, n := range map[string]int{
		"2147483647+1": 1 << 31, "-2147483647-1": -1 << 31, "-top": -1 << 31, "-low": 1 << 31, "--top": 1 << 31, "top+0": 1 << 31, "top-0": 1 << 31, "top+low": 0, "top-top": 0, "low-low": 0, "top-1-top": -1, "top*1": 1 << 31, "top*-1": -1 << 31, "low*-1": 1 << 31, "46341*46340": 46341 * 46340, "65536*32768": 1 << 31, "65536*-32768": -1 << 31, "(0-top)": -1 << 31, "top*zero": 0,
	} {
		wantValue(t, s, constant(n))
	}
	for _, s := range []string{"top+1", "1+top", "-top-1", "low-1", "-1+low", "top-low", "low-top", "top+top", "low+low", "top*2", "2*low", "46341*46342", "-46341*46342", "65536*32769", "65536*-32769", "top*top", "low*low", "top*low", "2147483647*2147483647", "a+top+1", "top+a+1", "a-low+1", "a-top-1", "a+low-1", "top+1-1", "top*2*zero", "zero*(top+1)", "1+a+top"} {
		wantFault(t, s, api.ErrRange)
	}
}

// P9.1: where no sum begins, or a part of one is missing.
func TestNoSum(t *testing.T) {
	for _, s := range []string{"", ",", ":", "+", "*", ")", "@", "-", "(", ", 1", ": a", ") 1", "+ 2", "* 2", "@ 1", "-+2", "-*2", "-)", "-,", "2+", "2-", "2*", "2+,", "2*)", "2-:", "2+*3", "2**3", "2++3", "2*+3", "2+@1", "()", "(2", "(2,", "(2 3)", "(2+)", "((2)", "(2*(3)", "(,)", "(+2)", "(a", "(a b)", "1+(2", "(1:)", "a+", "a-", "a*"} {
		wantFault(t, s, api.ErrParse)
	}
}

// P9.1: a name with a point is no part of a sum, wherever the point is.
func TestPoints(t *testing.T) {
	for _, s := range []string{".", "..", ".x", "a.", "a.b", "two.", ".two", "two.two", "a...........", "1+.x", "1-.x", "1*.x", "-.x", "(.x)", "a+.x", "a*.x", "2*(3+.word)"} {
		wantFault(t, s, api.ErrParse)
	}
	check(t, some(), words(t, "(1).5+.x"), constant(1), 3, api.OK)
	check(t, some(), words(t, "1.5"), constant(1), 1, api.OK)
}

// P9.1: what stands behind a sum is left, as long as it is not a part of it.
func TestLeft(t *testing.T) {
	for _, c := range []struct {
		s    string
		want api.Value
		n    int
	}{
		{"1 2", constant(1), 1}, {"1, 2", constant(1), 1}, {"1)", constant(1), 1}, {"1(2)", constant(1), 1}, {"1:", constant(1), 1}, {"1@2", constant(1), 1}, {"a b", place("a", 0), 1}, {"a 1", place("a", 0), 1}, {"two two", constant(2), 1}, {"a .x", place("a", 0), 1}, {"a, .x", place("a", 0), 1}, {"a(b", place("a", 0), 1},
		{"2+3 4", constant(5), 3}, {"2+3), +", constant(5), 3}, {"(2)(3)", constant(2), 3}, {"-1 -1", constant(-2), 4}, {"-1 a*b", constant(-1), 2}, {"a+1, b*c", place("a", 1), 3}, {"2*3:*4", constant(6), 3}, {"(a+1) top*top", place("a", 1), 5}, {"1 ( ( ( ( ( ( ( ( ( 1", constant(1), 1},
	} {
		check(t, some(), words(t, c.s), c.want, c.n, api.OK)
	}
}

// P9.1: what comes first is told, parts ahead of what is made of them.
func TestFirstFault(t *testing.T) {
	for s, e := range map[string]api.Errno{
		"top+1+": api.ErrRange, "top+1+.x": api.ErrRange, "top+1+a*b": api.ErrRange, "(top+1": api.ErrRange, "(top+1,": api.ErrRange, "top*2*": api.ErrRange, "top*2*a": api.ErrRange, "-(top+1)+a+b": api.ErrRange,
		"a+b+": api.ErrType, "a+b+.x": api.ErrType, "(a+b": api.ErrType, "(a+b)+.x": api.ErrType, "a*1*": api.ErrType, "a*1*.x": api.ErrType, "a+b*c+": api.ErrType, "-a+": api.ErrType, "-a.": api.ErrParse, "a+b+top*top": api.ErrType, "a*top*top": api.ErrType, "a-a+top+1": api.ErrType,
		"a+b*.x": api.ErrParse, "a*.x": api.ErrParse, "a+(b+.x)": api.ErrParse, "top+1*.x": api.ErrParse, "top*(2": api.ErrParse, "a*(b": api.ErrParse, "-(a": api.ErrParse, "a+b*": api.ErrParse, "top+(1,)": api.ErrParse, ".x+a*b": api.ErrParse, ".x+top*top": api.ErrParse, "-(-(a)": api.ErrType,
		"a+b*(top*2)": api.ErrRange, "a*(top+1)": api.ErrRange, "top*(a+b)": api.ErrType, "top+1*a": api.ErrType, "a*(top+top)": api.ErrRange,
		"((((((((( .x": api.ErrLimit, "(((((((( .x": api.ErrParse, "a+b*(((((((((": api.ErrLimit, "a*b*(((((((((": api.ErrType, "top*2+(((((((((": api.ErrRange, "-------- a": api.ErrType, "--------- a": api.ErrLimit, ".x + (((((((((1": api.ErrParse,
	} {
		wantFault(t, s, e)
	}
}

// P9.1: brackets and signs ahead as deep as may be, and deeper.
func TestDeep(t *testing.T) {
	for _, pattern := range []string{"(", "-", "(-", "-(", "(--", "((-"} {
		opening := strings.Repeat(pattern, api.MaxDeep)[:api.MaxDeep]
		closing := strings.Repeat(")", strings.Count(opening, "("))
		n := 1 - 2*(strings.Count(opening, "-")%2)
		// Brackets that are closed, and signs between two parts, are around nothing.
		for _, inner := range []string{"1", "5-4", "two-1", "1-1+1", "1*1"} {
			if strings.HasSuffix(opening, "(") {
				wantValue(t, opening+inner+closing, constant(n))
			}
		}
		wantValue(t, opening+"1"+closing, constant(n))
		wantValue(t, opening+"1"+closing+"+"+opening+"1"+closing, constant(2*n))
		wantValue(t, opening+"1"+closing+"*"+opening+"1"+closing, constant(1))
		for _, deeper := range []string{"(1)", "-1", "(", "-", "(.x", "-,", "-a", "1*(1)", "1*-1"} {
			if !strings.HasPrefix(deeper, "1") || strings.HasSuffix(opening, "(") {
				wantFault(t, opening+deeper+closing, api.ErrLimit)
			}
		}
	}
	wantValue(t, "(1)+(1)+(1)+(1)+(1)+(1)+(1)+(1)+(1)+(1)", constant(10))
	wantValue(t, "-1-1-1-1-1-1-1-1-1-1-1", constant(-11))
	wantValue(t, "-1*-1*-1*-1*-1*-1*-1*-1*-1*-1", constant(1))
	wantValue(t, "-1--1--1--1--1--1--1--1--1--1", constant(8))
	wantValue(t, "(((1)+(1))*((1)+(1)))-(-(-1))", constant(3))
	wantValue(t, "((((((((a))))))))+1", place("a", 1))
}

// P9.1: as many words as may be.
func TestManyWords(t *testing.T) {
	wantValue(t, strings.Repeat("1+", 19)+"1", constant(20))
	check(t, nil, words(t, strings.Repeat("1+", 19)+"1 1"), constant(20), 39, api.OK)
	check(t, nil, words(t, strings.Repeat("1+", 20)), api.Value{}, 0, api.ErrParse)
	check(t, nil, words(t, strings.Repeat("2-", 19)+"-2"), constant(-32), 40, api.OK)
	check(t, nil, slices.Repeat(words(t, "1"), api.MaxWords), constant(1), 1, api.OK)
	check(t, nil, slices.Repeat(words(t, "1"), api.MaxWords+1), api.Value{}, 0, api.ErrForm)
}

// P9.1, P9.2: words that may not be, also behind a sum or a fault.
func TestBadWords(t *testing.T) {
	for _, x := range []api.Token{
		{}, {Kind: api.TokName}, {Kind: api.TokName, Text: "A"}, {Kind: api.TokName, Text: "1"}, {Kind: api.TokName, Text: "abcdefghijklm"}, {Kind: api.TokName, Text: "a", N: 1}, {Kind: api.TokName, Text: "("},
		{Kind: api.TokNumber, N: -1}, {Kind: api.TokNumber, N: 1 << 31}, {Kind: api.TokNumber, N: 1, Text: "1"}, {Kind: api.TokNumber, N: math.MaxInt}, {Kind: api.TokNumber, N: math.MinInt},
		{Kind: api.TokSign}, {Kind: api.TokSign, Text: "a"}, {Kind: api.TokSign, Text: "/"}, {Kind: api.TokSign, Text: "+-"}, {Kind: api.TokSign, Text: "-", N: 1}, {Kind: api.TokSign + 1, Text: "+"}, {Kind: -1, Text: "a"},
	} {
		for _, ahead := range []string{"", "1", "1+", "1 2", ",", "a+b+", "top+1+", "((((((((((", ".x"} {
			check(t, some(), append(words(t, ahead), x), api.Value{}, 0, api.ErrForm)
			check(t, some(), append([]api.Token{x}, words(t, ahead)...), api.Value{}, 0, api.ErrForm)
		}
	}
	check(t, nil, []api.Token{{Kind: api.TokName, Text: "a", At: -7}, {Kind: api.TokSign, Text: "+", At: math.MaxInt}, {Kind: api.TokNumber, N: math.MaxInt32, At: math.MinInt}}, place("a", math.MaxInt32), 3, api.OK)
}

// P9.1, P9.2: lists of names that may be, and that may not.
func TestNames(t *testing.T) {
	one := words(t, "1")
	for _, names := range [][]api.Value{
		nil, {}, {place("a", 1)}, {place("_", -1<<31), place("__", 1<<31)}, {place("abcdefghijkl", 0)}, {place("a", 3), place("b", 3)}, {place("b", 0), place("a", 0)}, {place("r1", 1)}, {place("a9_z", 1)}, {place("add", 1)},
	} {
		check(t, names, one, constant(1), 1, api.OK)
		for _, v := range names {
			check(t, names, words(t, v.Sym), constant(v.N), 1, api.OK)
		}
	}
	for _, bad := range []api.Value{
		{}, {N: 1}, place("a", 1<<31+1), place("a", -1<<31-1), place("a", math.MaxInt), place("a", math.MinInt), place("A", 1), place("1", 1), place("9a", 1), place(".", 1), place("a.b", 1), place(".x", 1), place("a.", 1), place("abcdefghijklm", 1), place(" a", 1), place("a ", 1), place("a\n", 1), place("a;", 1), place("a b", 1), place("+", 1), place("a+", 1), place("(", 1), place("\u00e9", 1), place("a\x00", 1), place("a-b", 1), place("z", 7),
	} {
		for _, s := range []string{"1", "a", "", "+", "a*b", "top+1"} {
			check(t, []api.Value{place("z", 7), bad}, words(t, s), api.Value{}, 0, api.ErrForm)
			check(t, []api.Value{bad, place("y", 7), place("z", 7)}, words(t, s), api.Value{}, 0, api.ErrForm)
		}
	}
}

// P9.1, P9.2: as many names as may be, and one more; the first one and the last one twice.
func TestManyNames(t *testing.T) {
	var many []api.Value
	for i := range api.MaxSyms + 1 {
		many = append(many, place("n"+strconv.Itoa(i), i*i))
	}
	full := many[:api.MaxSyms]
	for i := range api.MaxSyms {
		check(t, full, words(t, full[i].Sym+"*2+1"), constant(2*i*i+1), 5, api.OK)
	}
	check(t, full, words(t, "n60"), place("n60", 0), 1, api.OK)
	check(t, many, words(t, "1"), api.Value{}, 0, api.ErrForm)
	check(t, slices.Repeat(full, 1000), words(t, "1"), api.Value{}, 0, api.ErrForm)
	twice := slices.Clone(full)
	twice[len(twice)-1] = place("n0", 0)
	check(t, twice, words(t, "1"), api.Value{}, 0, api.ErrForm)
}

// P9.1: sums of two values: all pairs of some, held against numbers without bounds.
func TestAdd(t *testing.T) {
	ns := []int{-1 << 31, -1<<31 + 1, -7, -1, 0, 1, 7, 1<<31 - 1, 1 << 31}
	syms := []string{"", "a", "b", "_", "abcdefghijkl"}
	for i := range len(ns) * len(syms) {
		for k := range len(ns) * len(syms) {
			a := place(syms[i%len(syms)], ns[i/len(syms)])
			b := place(syms[k%len(syms)], ns[k/len(syms)])
			want, e := modelAdd(a, b, 1)
			if v, f := Add(a, b); v != want || f != e {
				t.Errorf("%v, %v: %v, %d, not %v, %d", a, b, v, f, want, e)
			}
		}
	}
}

// P9.1: values that may not be, on either side; they are told ahead of all else.
func TestAddForms(t *testing.T) {
	for _, bad := range []api.Value{
		constant(1<<31 + 1), constant(-1<<31 - 1), constant(math.MaxInt), constant(math.MinInt), place("a", 1<<31+1), place("a", -1<<31-1), place("A", 0), place("1", 0), place(".", 0), place("a.b", 0), place("a.", 0), place("abcdefghijklm", 0), place(" ", 0), place("a ", 0), place("\n", 0), place("a;", 0), place("+", 0), place("\u00e9", 0), place("\x00", 0),
	} {
		for _, other := range []api.Value{{}, constant(1 << 31), constant(-1 << 31), place("a", 0), place("b", 1<<31), bad} {
			if v, e := Add(bad, other); v != (api.Value{}) || e != api.ErrForm {
				t.Errorf("%v, %v: %v, %d", bad, other, v, e)
			}
			if v, e := Add(other, bad); v != (api.Value{}) || e != api.ErrForm {
				t.Errorf("%v, %v: %v, %d", other, bad, v, e)
			}
		}
	}
}

// P9.3: brackets around any part change nothing.
func TestBrackets(t *testing.T) {
	for _, s := range []string{"1", "a", "a+1", "2*3+a", "1+2*3", "top-1", "-top"} {
		want, n, e := Take(some(), words(t, s))
		for deep := range api.MaxDeep - strings.Count(s, "-") + 1 {
			more := strings.Repeat("(", deep) + s + strings.Repeat(")", deep)
			if v, k, f := Take(some(), words(t, more)); v != want || k != n+2*deep || f != e {
				t.Errorf("%q: %v, %d, %d, not %v", more, v, k, f, want)
			}
		}
	}
	for some, more := range map[string]string{
		"1+2*3": "(1)+((2)*(3))", "1*2+3": "((1*2))+3", "1-2-3": "(1-2)-3", "1-2+3": "(1-2)+3", "2*3*4": "(2*3)*4", "-2*3": "(-2)*3", "-2+3": "(-2)+3", "a-1-2": "(a-1)-2", "1+a-2": "(1+(a))-2", "a+b": "(a)+(b)", "2*a": "(2)*(a)",
	} {
		v, _, e := Take(nil, words(t, some))
		if w, _, f := Take(nil, words(t, more)); v != w || e != f {
			t.Errorf("%q, %q: %v, %d, %v, %d", some, more, v, e, w, f)
		}
	}
}

// modelAdd tells a and, by the factor, more or less b.
func modelAdd(a, b api.Value, factor int64) (api.Value, api.Errno) {
	if b.Sym != "" && (a.Sym != "" || factor < 0) {
		return api.Value{}, api.ErrType
	}
	n := new(big.Int).Mul(big.NewInt(int64(b.N)), big.NewInt(factor))
	return modelFit(a.Sym+b.Sym, n.Add(n, big.NewInt(int64(a.N))))
}

func modelMul(a, b api.Value) (api.Value, api.Errno) {
	if a.Sym != "" || b.Sym != "" {
		return api.Value{}, api.ErrType
	}
	return modelFit("", new(big.Int).Mul(big.NewInt(int64(a.N)), big.NewInt(int64(b.N))))
}

func modelFit(sym string, n *big.Int) (api.Value, api.Errno) {
	if n.CmpAbs(big.NewInt(1<<31)) > 0 {
		return api.Value{}, api.ErrRange
	}
	return place(sym, int(n.Int64())), api.OK
}

// model goes by two stacks, of values and of signs that wait ("n": a - ahead of a factor): without calls of itself.
type model struct {
	values []api.Value
	signs  []byte
}

func strength(sign byte) int {
	switch sign {
	case 'n':
		return 3
	case '*':
		return 2
	case '+', '-':
		return 1
	}
	return 0
}

// settle does what waits and is at least so strong.
func (m *model) settle(least int) api.Errno {
	for len(m.signs) > 0 && strength(m.signs[len(m.signs)-1]) >= least {
		sign, last := m.signs[len(m.signs)-1], len(m.values)-1
		m.signs = m.signs[:len(m.signs)-1]
		b := m.values[last]
		m.values = m.values[:last]
		a := api.Value{}
		if sign != 'n' {
			a = m.values[last-1]
			m.values = m.values[:last-1]
		}
		v, e := modelAdd(a, b, 1)
		switch sign {
		case '*':
			v, e = modelMul(a, b)
		case '-', 'n':
			v, e = modelAdd(a, b, -1)
		}
		if e != api.OK {
			return e
		}
		m.values = append(m.values, v)
	}
	return api.OK
}

// begin takes a word where a factor must begin; whether it is one is told.
func (m *model) begin(names []api.Value, x api.Token) (bool, api.Errno) {
	switch {
	case x.Kind == api.TokNumber:
		m.values = append(m.values, constant(x.N))
		return true, api.OK
	case x.Kind == api.TokName && !strings.Contains(x.Text, "."):
		v := place(x.Text, 0)
		for _, c := range names {
			if c.Sym == x.Text {
				v = constant(c.N)
			}
		}
		m.values = append(m.values, v)
		return true, api.OK
	case x.Text != "(" && x.Text != "-":
		return false, api.ErrParse
	}
	deep := 0
	for _, sign := range m.signs {
		if sign == 'n' || sign == '(' {
			deep++
		}
	}
	if deep >= api.MaxDeep {
		return false, api.ErrLimit
	}
	m.signs = append(m.signs, map[string]byte{"(": '(', "-": 'n'}[x.Text])
	return false, api.OK
}

// modelTake tells what Take must, of names and words that may be.
func modelTake(names []api.Value, l []api.Token) (v api.Value, n int, e api.Errno) {
	var m model
	behind := false
	for ; n < len(l) && e == api.OK; n++ {
		x := l[n].Text
		if !behind {
			behind, e = m.begin(names, l[n])
			continue
		}
		if e = m.settle(3); e != api.OK {
			break
		}
		if x == ")" && slices.Contains(m.signs, '(') {
			e = m.settle(1)
			m.signs = m.signs[:max(0, len(m.signs)-1)]
			continue
		}
		if x != "+" && x != "-" && x != "*" {
			break
		}
		e = m.settle(strength(x[0]))
		m.signs = append(m.signs, x[0])
		behind = false
	}
	if e == api.OK && !behind {
		e = api.ErrParse
	}
	if e == api.OK {
		e = m.settle(1)
	}
	if e == api.OK && len(m.signs) > 0 {
		e = api.ErrParse
	}
	if e != api.OK {
		return api.Value{}, 0, e
	}
	return m.values[0], n, api.OK
}

// same holds Take against the model.
func same(t *testing.T, names []api.Value, l []api.Token) {
	t.Helper()
	v, n, e := Take(names, l)
	if w, k, f := modelTake(names, l); v != w || n != k || e != f {
		t.Fatalf("%v: %v, %d, %d, not %v, %d, %d", l, v, n, e, w, k, f)
	}
}

// P9.1: all short lists of some words.
func TestShortLists(t *testing.T) {
	alphabet := words(t, "3 a top .x + - * ( ) ,")
	names := some()
	var all func(l []api.Token, left int)
	all = func(l []api.Token, left int) {
		same(t, names, l)
		if left == 0 {
			return
		}
		for _, x := range alphabet {
			all(append(l, x), left-1)
		}
	}
	all(nil, 5)
}

// P9.1: long lists that are mostly sums.
func TestLongLists(t *testing.T) {
	starts := words(t, "3 a top low neg b ( - ( - 7 2 ( - .x")
	joins := words(t, "+ - * + - ) ) ) + * ,")
	seed := uint32(1)
	next := func(n int) int {
		seed = seed*1664525 + 1013904223
		return int(seed>>16) % n
	}
	for range 200000 {
		var l []api.Token
		behind := false
		// The rarest words come seldom, so that lists get long.
		fair := next(8)
		for range 1 + next(api.MaxWords) {
			from := starts[:len(starts)-min(fair, 1)]
			if fair > 2 {
				from = slices.DeleteFunc(slices.Clone(from), func(x api.Token) bool { return x.Text == "a" || x.Text == "b" || x.Text == "top" || x.Text == "low" })
			}
			if behind {
				from = joins[:len(joins)-min(fair, 1)]
			}
			x := from[next(len(from))]
			l = append(l, x)
			behind = x.Kind != api.TokSign || x.Text == ")"
		}
		same(t, some(), l)
	}
}

// R2: what is handed in stays as it is.
func TestGivenStays(t *testing.T) {
	for _, s := range []string{"2+3*4", "a+two", "(-(top)+1)*3, b", "a*b", "top+1", "2+", "((((((((("} {
		names, l := some(), words(t, s)
		Take(names, l)
		Of(names, l)
		Number(names, l)
		if !slices.Equal(names, some()) || !slices.Equal(l, words(t, s)) {
			t.Errorf("%q: %v, %v", s, names, l)
		}
	}
}

// R1: long names and lists end.
func TestLongOnes(t *testing.T) {
	const many = 1 << 22
	long := strings.Repeat("a", many)
	check(t, []api.Value{place(long, 1)}, words(t, "1"), api.Value{}, 0, api.ErrForm)
	check(t, make([]api.Value, many), words(t, "1"), api.Value{}, 0, api.ErrForm)
	check(t, nil, []api.Token{{Kind: api.TokName, Text: long}}, api.Value{}, 0, api.ErrForm)
	check(t, nil, slices.Repeat(words(t, "("), many), api.Value{}, 0, api.ErrForm)
	if v, e := Add(place(long, 1), api.Value{}); v != (api.Value{}) || e != api.ErrForm {
		t.Errorf("a long name: %d", e)
	}
}
