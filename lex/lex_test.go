package lex

import (
	"math"
	"regexp"
	"slices"
	"strconv"
	"strings"
	"testing"

	"sledge/api"
)

func nameAt(s string, at int) api.Token {
	return api.Token{Kind: api.TokName, Text: s, At: at}
}

func numberAt(n, at int) api.Token {
	return api.Token{Kind: api.TokNumber, N: n, At: at}
}

func signAt(s string, at int) api.Token {
	return api.Token{Kind: api.TokSign, Text: s, At: at}
}

// nowhere tells the words without their places.
func nowhere(l []api.Token) []api.Token {
	l = slices.Clone(l)
	for i := range l {
		l[i].At = 0
	}
	return l
}

func wantWords(t *testing.T, s string, want ...api.Token) {
	t.Helper()
	if l, at, e := Words(s); !slices.Equal(l, want) || at != 0 || e != api.OK {
		t.Errorf("%q: %v, %d, %d, not %v", s, l, at, e, want)
	}
}

func wantFault(t *testing.T, s string, at int, e api.Errno) {
	t.Helper()
	if l, a, f := Words(s); len(l) != 0 || a != at || f != e {
		t.Errorf("%q: %v, %d, %d, not %d, %d", s, l, a, f, at, e)
	}
}

// P8.1: words of each kind, and where each begins.
func TestWords(t *testing.T) {
	wantWords(t, "a: li r1, 0x10 ; so", nameAt("a", 0), signAt(":", 1), nameAt("li", 3), nameAt("r1", 6), signAt(",", 8), numberAt(16, 10))
	wantWords(t, ",:+-*()@", signAt(",", 0), signAt(":", 1), signAt("+", 2), signAt("-", 3), signAt("*", 4), signAt("(", 5), signAt(")", 6), signAt("@", 7))
	wantWords(t, "\t .word\t_a.9+2", nameAt(".word", 2), nameAt("_a.9", 8), signAt("+", 12), numberAt(2, 13))
	wantWords(t, "a.b", nameAt("a.b", 0))
	wantWords(t, ". .. _ __", nameAt(".", 0), nameAt("..", 2), nameAt("_", 5), nameAt("__", 7))
	wantWords(t, "-1", signAt("-", 0), numberAt(1, 1))
	wantWords(t, "@1", signAt("@", 0), numberAt(1, 1))
}

// P8.1: a line without words.
func TestNoWords(t *testing.T) {
	for _, s := range []string{"", " ", "\t", " \t \t", ";", ";;", " ; x", "\t;!A\r\x00\xff\u00e9", ";" + strings.Repeat("a ", 100)} {
		wantWords(t, s)
	}
}

// P8.1: no blanks are needed between words.
func TestWordsWithoutBlanks(t *testing.T) {
	wantWords(t, "12ab", numberAt(12, 0), nameAt("ab", 2))
	wantWords(t, "1_", numberAt(1, 0), nameAt("_", 1))
	wantWords(t, "1.5", numberAt(1, 0), nameAt(".5", 1))
	wantWords(t, "0xag", numberAt(10, 0), nameAt("g", 3))
	wantWords(t, "0x1x2", numberAt(1, 0), nameAt("x2", 3))
	wantWords(t, "0a", numberAt(0, 0), nameAt("a", 1))
	wantWords(t, "00x1", numberAt(0, 0), nameAt("x1", 2))
	wantWords(t, "10x1", numberAt(10, 0), nameAt("x1", 2))
	wantWords(t, "x0x1", nameAt("x0x1", 0))
	wantWords(t, "a;b", nameAt("a", 0))
	wantWords(t, "1;", numberAt(1, 0))
}

// P8.1: numbers up to the greatest, noughts ahead.
func TestNumbers(t *testing.T) {
	noughts := strings.Repeat("0", 1000)
	for _, c := range []struct {
		s string
		n int
	}{
		{"0", 0}, {"9", 9}, {"10", 10}, {"007", 7}, {"2147483647", math.MaxInt32}, {noughts, 0}, {noughts + "2147483647", math.MaxInt32},
		{"0x0", 0}, {"0x9", 9}, {"0xa", 10}, {"0xf", 15}, {"0x10", 16}, {"0xdead", 57005}, {"0x7fffffff", math.MaxInt32}, {"0x" + noughts, 0}, {"0x" + noughts + "7fffffff", math.MaxInt32}, {"0x0f", 15},
	} {
		wantWords(t, c.s, numberAt(c.n, 0))
		wantWords(t, " "+c.s+",", numberAt(c.n, 1), signAt(",", 1+len(c.s)))
	}
	for _, s := range []string{"2147483648", "2147483650", "4294967296", "18446744073709551616", "18446744073709551617", noughts + "2147483648", "1" + noughts, "0x80000000", "0xffffffff", "0x100000000", "0x10000000000000000", "0x10000000000000001", "0x1" + noughts, "2147483648a", "0x80000000g"} {
		wantFault(t, s, 0, api.ErrParse)
		wantFault(t, "a, "+s, 3, api.ErrParse)
	}
}

// P8.1: 0x without hex digits is no word, not even a nought.
func TestNoHexDigits(t *testing.T) {
	for _, s := range []string{"0x", "0x ", "0x 1", "0xg", "0x;", "0x,", "0x.", "0x_", "0xA", "0xx1", "0x-1", "0x:", "0x/", "0x`"} {
		wantFault(t, s, 0, api.ErrParse)
		wantFault(t, "a "+s, 2, api.ErrParse)
	}
	wantFault(t, "0X1", 1, api.ErrParse)
	wantFault(t, "0xaA", 3, api.ErrParse)
}

// P8.1: names up to the longest; of a longer one its begin is told.
func TestLongNames(t *testing.T) {
	for _, long := range []string{"abcdefghijkl", "............", "a00000000000", "_._._._._._9", "zzzzzzzzzzzz"} {
		wantWords(t, long+":", nameAt(long, 0), signAt(":", api.MaxName))
		for _, more := range []string{"a", "z", "0", "9", "_", "."} {
			wantFault(t, long+more, 0, api.ErrParse)
			wantFault(t, "1 "+long+more+"!", 2, api.ErrParse)
		}
		wantFault(t, long+"A", api.MaxName, api.ErrParse)
	}
	wantFault(t, strings.Repeat("a", 1000), 0, api.ErrParse)
}

// P8.1: what each byte does at a word's begin, and right behind one.
func TestEachByte(t *testing.T) {
	for c := range 256 {
		s := string([]byte{byte(c)})
		switch {
		case s == "\n":
			wantFault(t, "a "+s, 0, api.ErrParse)
		case s == " " || s == "\t" || s == ";":
			wantWords(t, s)
			wantWords(t, "a"+s, nameAt("a", 0))
		case strings.Contains("abcdefghijklmnopqrstuvwxyz_.", s):
			wantWords(t, s, nameAt(s, 0))
			wantWords(t, "a"+s, nameAt("a"+s, 0))
		case strings.Contains("0123456789", s):
			wantWords(t, s, numberAt(c-'0', 0))
			wantWords(t, "a"+s, nameAt("a"+s, 0))
		case strings.Contains(",:+-*()@", s):
			wantWords(t, s, signAt(s, 0))
			wantWords(t, "a"+s, nameAt("a", 0), signAt(s, 1))
		default:
			wantFault(t, s, 0, api.ErrParse)
			wantFault(t, "a"+s, 1, api.ErrParse)
			wantFault(t, "1 "+s+" !", 2, api.ErrParse)
		}
	}
}

// P8.1: a byte 10 is told ahead of all else, wherever it stands.
func TestByteTen(t *testing.T) {
	for _, s := range []string{"\n", "a\n", "\na", "a; b\n", ";\n", "!\n", "a !\n", "ab 0x\n", strings.Repeat("a ", 41) + "\n", "abcdefghijklm\n"} {
		wantFault(t, s, 0, api.ErrParse)
	}
}

// P8.1: what comes first is told, places counted in bytes.
func TestFirstFault(t *testing.T) {
	wantFault(t, "a ! 0x", 2, api.ErrParse)
	wantFault(t, "a 0x !", 2, api.ErrParse)
	wantFault(t, "a 2147483648 abcdefghijklm", 2, api.ErrParse)
	wantFault(t, "a abcdefghijklm 2147483648", 2, api.ErrParse)
	wantFault(t, "\t \u00e9", 2, api.ErrParse)
	wantFault(t, "ab\u00e9", 2, api.ErrParse)
	wantFault(t, "a\r", 1, api.ErrParse)
	wantFault(t, "! ; no", 0, api.ErrParse)
	wantWords(t, "a ; ! 0x", nameAt("a", 0))
}

// P8.1: as many words as may be, and one more; no word at all is told ahead of one too many.
func TestManyWords(t *testing.T) {
	for _, full := range []string{strings.Repeat("a ", 40), strings.Repeat("1 ", 40), strings.Repeat(",", 40), strings.Repeat("a,", 20), strings.Repeat("1a ", 20)} {
		for _, behind := range []string{"", " ", "\t\t", ";", " ;a", " ; a b c"} {
			if l, at, e := Words(full + behind); len(l) != api.MaxWords || at != 0 || e != api.OK {
				t.Errorf("%q behind %q: %d, %d, %d", behind, full, len(l), at, e)
			}
		}
		for _, next := range []string{"a", "1", ",", "a a", "a!", "a 0x", "abcdefghijkl", "0x1", "2147483647"} {
			wantFault(t, full+" \t "+next, len(full)+3, api.ErrLimit)
		}
		for _, no := range []string{"!", "A", "0x", "abcdefghijklm", "2147483648", "\xff"} {
			wantFault(t, full+" "+no, len(full)+1, api.ErrParse)
		}
	}
	wantFault(t, strings.Repeat("a ", 39)+"! a a", 78, api.ErrParse)
	wantFault(t, strings.Repeat("a ", 100000), 80, api.ErrLimit)
}

var wordAhead = regexp.MustCompile(`^(?:([a-z_.][a-z0-9_.]*)|(0x[0-9a-f]*|[0-9]+)|([,:+*()@-]))`)

// model tells the words by a pattern: slowly, for short lines.
func model(s string) (l []api.Token, at int, e api.Errno) {
	if strings.ContainsRune(s, '\n') {
		return nil, 0, api.ErrParse
	}
	s, _, _ = strings.Cut(s, ";")
	for {
		rest := strings.TrimLeft(s[at:], " \t")
		at = len(s) - len(rest)
		if rest == "" {
			return l, 0, api.OK
		}
		m := wordAhead.FindStringSubmatch(rest)
		if m == nil {
			return nil, at, api.ErrParse
		}
		switch {
		case m[1] != "":
			l = append(l, nameAt(m[1], at))
		case m[2] != "":
			digits, base := m[2], 10
			if strings.HasPrefix(digits, "0x") {
				digits, base = digits[2:], 16
			}
			n, err := strconv.ParseInt(digits, base, 32)
			if err != nil {
				return nil, at, api.ErrParse
			}
			l = append(l, numberAt(int(n), at))
		default:
			l = append(l, signAt(m[3], at))
		}
		at += len(m[0])
	}
}

// P8.1, P8.3: all short lines of some bytes.
func TestShortLines(t *testing.T) {
	const bytes = "a0x9.G,; \n"
	lines := []string{""}
	for at := 0; at < len(lines); at++ {
		s := lines[at]
		if len(s) < 5 {
			for i := range len(bytes) {
				lines = append(lines, s+bytes[i:i+1])
			}
		}
		want, place, f := model(s)
		l, a, e := Words(s)
		if !slices.Equal(l, want) || a != place || e != f {
			t.Fatalf("%q: %v, %d, %d, not %v, %d, %d", s, l, a, e, want, place, f)
		}
		if text, e := Text(l); e != api.OK || Check(l) != api.OK {
			t.Fatalf("%q: %q, %d, %d", s, text, e, Check(l))
		} else if back, _, e := Words(text); e != api.OK || !slices.Equal(nowhere(back), nowhere(l)) {
			t.Fatalf("%q, %q: %v, %d", s, text, back, e)
		}
	}
}

// P8.1: Check and Text of a word that may be, and of one that may not.
func TestForms(t *testing.T) {
	for _, x := range []api.Token{
		nameAt("a", 0), nameAt("a", -1), nameAt("a", math.MaxInt), nameAt("a", math.MinInt), nameAt(".", 3), nameAt("_", 3), nameAt("z9._", 3), nameAt("abcdefghijkl", 0), nameAt("r0", 0), nameAt("x1f", 0),
		numberAt(0, 0), numberAt(1, -9), numberAt(math.MaxInt32, 0),
		signAt(",", 0), signAt(":", 0), signAt("+", 0), signAt("-", 0), signAt("*", 0), signAt("(", 0), signAt(")", 0), signAt("@", -5),
	} {
		l := []api.Token{signAt("@", 0), x}
		s, e := Text(l)
		if Check(l) != api.OK || e != api.OK {
			t.Errorf("%v: %d, %d", x, Check(l), e)
		}
		if back, _, f := Words(s); f != api.OK || !slices.Equal(nowhere(back), nowhere(l)) {
			t.Errorf("%v: %q, %v", x, s, back)
		}
	}
	for _, x := range []api.Token{
		{}, {At: 1}, {Kind: api.TokNone, Text: "a"}, {Kind: api.TokNone, Text: "!"}, {Kind: api.TokNone, Text: "abcdefghijklm"}, {Kind: api.TokNone, N: 1}, {Kind: api.TokSign + 1, Text: "a"}, {Kind: api.TokSign + 1, Text: ","}, {Kind: -1, Text: "a"}, {Kind: math.MaxInt, N: 1}, {Kind: math.MinInt},
		nameAt("", 0), nameAt("1", 0), nameAt("9a", 0), nameAt("A", 0), nameAt("aB", 0), nameAt("a b", 0), nameAt(" a", 0), nameAt("a ", 0), nameAt("a\t", 0), nameAt("a\n", 0), nameAt("a;", 0), nameAt("a:", 0), nameAt(",", 0), nameAt("a!", 0), nameAt("\x00", 0), nameAt("a\x00", 0), nameAt("\u00e9", 0), nameAt("abcdefghijklm", 0), {Kind: api.TokName, Text: "a", N: 1}, {Kind: api.TokName, Text: "a", N: -1}, {Kind: api.TokName, N: 1},
		numberAt(-1, 0), numberAt(math.MaxInt32+1, 0), numberAt(math.MinInt, 0), numberAt(math.MaxInt, 0), {Kind: api.TokNumber, Text: "1", N: 1}, {Kind: api.TokNumber, Text: "0"}, {Kind: api.TokNumber, Text: "a"}, {Kind: api.TokNumber, Text: " "},
		signAt("", 0), signAt(";", 0), signAt(" ", 0), signAt("\t", 0), signAt("\n", 0), signAt("()", 0), signAt(",:", 0), signAt(",:+-*()@", 0), signAt(", ", 0), signAt("a", 0), signAt("1", 0), signAt("!", 0), signAt("/", 0), signAt("\xff", 0), {Kind: api.TokSign, Text: ",", N: 1}, {Kind: api.TokSign, N: 1},
	} {
		for _, l := range [][]api.Token{{x}, {x, nameAt("a", 0)}, {nameAt("a", 0), x}} {
			if s, e := Text(l); Check(l) != api.ErrForm || s != "" || e != api.ErrForm {
				t.Errorf("%v: %d, %q, %d", l, Check(l), s, e)
			}
		}
	}
}

// P8.1: Check and Text of as many words as may be, and one more.
func TestManyForms(t *testing.T) {
	many := slices.Repeat([]api.Token{numberAt(math.MaxInt32, 0)}, api.MaxWords+1)
	if s, e := Text(many); Check(many) != api.ErrForm || s != "" || e != api.ErrForm {
		t.Errorf("one too many: %d, %q, %d", Check(many), s, e)
	}
	full := many[:api.MaxWords]
	want := strings.Repeat("2147483647 ", api.MaxWords-1) + "2147483647"
	if s, e := Text(full); Check(full) != api.OK || s != want || e != api.OK {
		t.Errorf("full: %d, %q, %d", Check(full), s, e)
	}
	if back, _, e := Words(want); e != api.OK || !slices.Equal(nowhere(back), full) {
		t.Errorf("back: %v, %d", back, e)
	}
}

// P8.1: what Text tells.
func TestText(t *testing.T) {
	for _, c := range []struct {
		l    []api.Token
		text string
	}{
		{nil, ""},
		{[]api.Token{}, ""},
		{[]api.Token{nameAt(".equ", 7)}, ".equ"},
		{[]api.Token{numberAt(0, 0)}, "0"},
		{[]api.Token{numberAt(16, 0), nameAt("x", 0)}, "16 x"},
		{[]api.Token{nameAt("a", 9), signAt(":", 4), nameAt("li", 4), nameAt("r1", 0), signAt(",", 0), signAt("-", 0), numberAt(1, 0)}, "a : li r1 , - 1"},
	} {
		if s, e := Text(c.l); s != c.text || e != api.OK || Check(c.l) != api.OK {
			t.Errorf("%v: %q, %d, not %q", c.l, s, e, c.text)
		}
	}
}

// P8.2: lines, one more than there are bytes 10; no other byte parts them.
func TestSplit(t *testing.T) {
	for _, c := range []struct {
		s string
		l []string
	}{
		{"", []string{""}},
		{"\n", []string{"", ""}},
		{"a", []string{"a"}},
		{"a\n", []string{"a", ""}},
		{"\na", []string{"", "a"}},
		{"a: ; x\n\n\t!\r\nb", []string{"a: ; x", "", "\t!\r", "b"}},
		{"a\r\fb\vc\x00\u2028\u0085", []string{"a\r\fb\vc\x00\u2028\u0085"}},
		{"\xff\n\xfe", []string{"\xff", "\xfe"}},
	} {
		if l, e := Split(c.s); !slices.Equal(l, c.l) || e != api.OK {
			t.Errorf("%q: %q, %d", c.s, l, e)
		}
	}
}

// P8.2: the longest text, the most lines, both, and just more.
func TestSplitLimits(t *testing.T) {
	newlines := strings.Repeat("\n", api.MaxLines-1)
	fill := strings.Repeat("x", api.MaxText-len(newlines))
	for _, s := range []string{newlines, newlines + fill, fill + newlines, strings.Repeat("x", api.MaxText), strings.Repeat("\u00e9", api.MaxText/2)} {
		l, e := Split(s)
		if len(l) != 1+strings.Count(s, "\n") || strings.Join(l, "\n") != s || e != api.OK {
			t.Errorf("%d bytes: %d lines, %d", len(s), len(l), e)
		}
	}
	for _, s := range []string{newlines + "\n", "a\n" + newlines, newlines + "\na", newlines + fill + "x", strings.Repeat("x", api.MaxText+1), strings.Repeat("\n", api.MaxText), strings.Repeat("\n", 1<<20), strings.Repeat("x", 1<<20), strings.Repeat("\u00e9", api.MaxText/2+1)} {
		if l, e := Split(s); len(l) != 0 || e != api.ErrLimit {
			t.Errorf("%d bytes: %d lines, %d", len(s), len(l), e)
		}
	}
}

// R1: long lines and words end.
func TestLongLines(t *testing.T) {
	const many = 1 << 22
	wantFault(t, strings.Repeat("a", many), 0, api.ErrParse)
	wantFault(t, strings.Repeat("9", many), 0, api.ErrParse)
	wantFault(t, strings.Repeat(" ", many)+"!", many, api.ErrParse)
	wantWords(t, strings.Repeat("0", many), numberAt(0, 0))
	wantWords(t, "a;"+strings.Repeat("!", many), nameAt("a", 0))
	long := []api.Token{nameAt(strings.Repeat("a", many), 0)}
	if s, e := Text(long); Check(long) != api.ErrForm || s != "" || e != api.ErrForm {
		t.Errorf("a long name: %d, %d bytes, %d", Check(long), len(s), e)
	}
}

// R2: words that are handed in stay as they are, and who writes into an answer changes no later one.
func TestAnswersAreNew(t *testing.T) {
	const s = "a: li r1, 2"
	first, _, _ := Words(s)
	given := slices.Clone(first)
	if _, e := Text(given); e != api.OK || Check(given) != api.OK || !slices.Equal(given, first) {
		t.Errorf("changed: %v, %d", given, e)
	}
	first[0] = numberAt(7, 7)
	_ = append(first[:1], numberAt(8, 8))
	if again, _, _ := Words(s); !slices.Equal(again, given) {
		t.Errorf("words: %v", again)
	}
	lines, _ := Split("a\nb")
	lines[0] = "c"
	_ = append(lines[:1], "d")
	if again, _ := Split("a\nb"); !slices.Equal(again, []string{"a", "b"}) {
		t.Errorf("lines: %q", again)
	}
}
