package word

import (
	"slices"
	"strings"
	"testing"
	"unicode/utf8"
)

// line is what Lines hands out: a line and its place.
type line struct {
	at   int
	text string
}

func linesOf(s string) []line {
	var l []line
	for at, text := range Lines(s) {
		l = append(l, line{at, text})
	}
	return l
}

// texts answers all texts of at most most pieces.
func texts(most int, pieces ...string) []string {
	all := []string{""}
	last := all
	for range most {
		var next []string
		for _, s := range last {
			for _, p := range pieces {
				next = append(next, s+p)
			}
		}
		all = append(all, next...)
		last = next
	}
	return all
}

// Promise 1.1: Class.

func TestClassNumbers(t *testing.T) {
	if None != 0 || Letter != 1 || Digit != 2 || Sign != 3 || Blank != 4 {
		t.Errorf("classes: %d %d %d %d %d", None, Letter, Digit, Sign, Blank)
	}
}

// classes answers the class of each rune that has one, as the chapter tells it.
func classes() map[rune]int {
	m := map[rune]int{' ': Blank, '_': Sign, '\u2032': Sign, '\u2033': Sign, '\u2034': Sign}
	for _, r := range "0123456789" {
		m[r] = Digit
	}
	for _, r := range "abcdefghijklmnopqrstuvwxyzABCDEFGHIJKLMNOPQRSTUVWXYZ" {
		m[r] = Letter
	}
	for _, ends := range [][2]rune{{0xC0, 0x24F}, {0x391, 0x3C9}, {0x410, 0x44F}} {
		for r := ends[0]; r <= ends[1]; r++ {
			m[r] = Letter
		}
	}
	for _, r := range []rune{0xD7, 0xF7, 0x3A2} {
		delete(m, r)
	}
	return m
}

func TestClassOfAllRunes(t *testing.T) {
	want := classes()
	for r := rune(-300); r <= utf8.MaxRune+300; r++ {
		if Class(r) != want[r] {
			t.Errorf("Class(%#x) = %d, not %d", r, Class(r), want[r])
		}
	}
	for _, r := range []rune{-1 << 31, 1<<31 - 1} {
		if Class(r) != None {
			t.Errorf("Class(%d) = %d", r, Class(r))
		}
	}
}

func TestClassAtEnds(t *testing.T) {
	for _, c := range []struct {
		class int
		runes []rune
	}{
		{Letter, []rune{'a', 'z', 'A', 'Z', 0xC0, 0xD6, 0xD8, 0xF6, 0xF8, 0x24F, 0x391, 0x3A1, 0x3A3, 0x3C9, 0x410, 0x44F}},
		{Digit, []rune{'0', '9'}},
		{Sign, []rune{'_', 0x2032, 0x2033, 0x2034}},
		{Blank, []rune{' '}},
		{None, []rune{0, '\n', '\r', '\t', '/', ':', '@', '[', '^', '`', '{', 0x7F, 0xA0, 0xAA, 0xB2, 0xB5, 0xBF, 0xD7, 0xF7, 0x250, 0x390, 0x3A2, 0x3CA, 0x40F, 0x450, 0x660, 0x2031, 0x2035, 0x3000, 0xD800, 0xFF10, utf8.RuneError, -1}},
	} {
		for _, r := range c.runes {
			if Class(r) != c.class {
				t.Errorf("Class(%#x) = %d, not %d", r, Class(r), c.class)
			}
		}
	}
}

// Promise 1.1: Name.

func TestNameIsOne(t *testing.T) {
	for _, s := range []string{
		"a", "z", "A", "Z", "\u00c0", "\u024f", "\u0391", "\u03c9", "\u0410", "\u044f",
		"x1", "x007", "a1b2", "ab\u0416\u03c9",
		"x_", "x__", "x___", "x1_", "x\u2032", "x\u2032\u2033\u2034", "x_\u2034_",
		strings.Repeat("a", 16), strings.Repeat("\u00e9", 16), "a" + strings.Repeat("9", 15),
		strings.Repeat("a", 13) + "___", strings.Repeat("\u0416", 13) + "\u2032\u2032\u2032",
	} {
		if !Name(s) {
			t.Errorf("%q is no name", s)
		}
	}
}

func TestNameIsNone(t *testing.T) {
	for _, s := range []string{
		"", " ", "_", "___", "\u2032", "0", "1x", "_x", "\u2033x",
		"x____", "x\u2032\u2032\u2032\u2032", "x_\u2032_\u2034",
		"x_1", "x_y", "x_1_", "x\u2032y", "x___y",
		strings.Repeat("a", 17), strings.Repeat("\u00e9", 17), strings.Repeat("a", 14) + "___", strings.Repeat("a", 16) + "_", strings.Repeat("a", 1<<20),
		"a b", " a", "a ", "a\n", "\na", "a\x00", "a-b", "a+", "a:", "a|b", "a.b",
		"\u00d7", "\u00f7", "\u03a2", "\u00bf", "\u0250", "\u0390", "\u03ca", "\u040f", "\u0450", "a\u00d7", "a\u0301", "a\u0661",
		"\xff", "a\xff", "\xffa", "a\xffb", "a\xc3", "\xc3", "\x80", "a_\xff", "\xed\xa0\x80", "\xc1\xa1", "a\ufffd", "\ufffd",
	} {
		if Name(s) {
			t.Errorf("%q is a name", s)
		}
	}
}

// isName asks for a name in another way than Name: it takes the signs off the end first.
func isName(s string) bool {
	l := []rune(s)
	if len(l) > 16 {
		return false
	}
	end := len(l)
	for end > 0 && Class(l[end-1]) == Sign {
		end--
	}
	if end == 0 || len(l)-end > 3 || Class(l[0]) != Letter {
		return false
	}
	for _, r := range l[:end] {
		if Class(r) != Letter && Class(r) != Digit {
			return false
		}
	}
	return true
}

func TestNameOfShortTexts(t *testing.T) {
	for _, s := range texts(6, "a", "\u0416", "0", "_", "\u2032", " ", "\xff") {
		if Name(s) != isName(s) {
			t.Errorf("Name(%q) = %v", s, Name(s))
		}
	}
}

// Promise 1.1: Number.

func TestNumberIsOne(t *testing.T) {
	for s, want := range map[string]int{
		"0": 0, "1": 1, "9": 9, "10": 10, "100": 100, "123456789": 123456789, "100000000": 100000000, "999999998": 999999998, "999999999": 999999999,
	} {
		if n, ok := Number(s); n != want || !ok {
			t.Errorf("Number(%q) = %d, %v", s, n, ok)
		}
	}
}

func TestNumberIsNone(t *testing.T) {
	for _, s := range []string{
		"", " ", "00", "01", "007", "000000000", "0999999999", "0000000001",
		"1000000000", "4294967297", "9999999999", "9223372036854775808", "18446744073709551617", strings.Repeat("9", 1<<20), strings.Repeat("0", 1<<20),
		"-1", "+1", "-0", "1.0", "1e3", "1_0", "0x1", "x", "1x", "x1", " 1", "1 ", "1\n",
		"\u0661", "1\u0661", "\uff11", "\u00b2", "\xff", "1\xff", "\xff1", "\xb1", "1\x00", "\xc3",
	} {
		if n, ok := Number(s); n != 0 || ok {
			t.Errorf("Number(%q) = %d, %v", s, n, ok)
		}
	}
}

func TestNumberThereAndBack(t *testing.T) {
	for _, s := range texts(4, "0", "1", "9") {
		n, ok := Number(s)
		if ok != (s == "0" || s != "" && s[0] != '0') {
			t.Errorf("Number(%q) = %d, %v", s, n, ok)
		}
		back := ""
		for k := n; k > 0 || back == ""; k /= 10 {
			back = string(rune('0'+k%10)) + back
		}
		if ok && back != s {
			t.Errorf("Number(%q) = %d", s, n)
		}
	}
}

// Promise 1.2: Split.

func TestSplit(t *testing.T) {
	for s, want := range map[string][]Word{
		"":                nil,
		" ":               nil,
		"   ":             nil,
		"a":               {{0, "a"}},
		" a":              {{1, "a"}},
		"a ":              {{0, "a"}},
		" ab  c":          {{1, "ab"}, {5, "c"}},
		"a b":             {{0, "a"}, {2, "b"}},
		"  x\u00e9 1 ":    {{2, "x\u00e9"}, {6, "1"}},
		"\u2032 \u0416 a": {{0, "\u2032"}, {4, "\u0416"}, {7, "a"}},
		"a\tb\u00a0c\r":   {{0, "a\tb\u00a0c\r"}},
		"a\nb \n c":       {{0, "a\nb"}, {4, "\n"}, {6, "c"}},
		"+ -: 1|":         {{0, "+"}, {2, "-:"}, {5, "1|"}},
		"\xff \xc3 a\xc3": {{0, "\xff"}, {2, "\xc3"}, {4, "a\xc3"}},
		"\xe2\x80 \xb2":   {{0, "\xe2\x80"}, {3, "\xb2"}},
		"\x00 \ufffd":     {{0, "\x00"}, {2, "\ufffd"}},
	} {
		if l := Split(s); !slices.Equal(l, want) {
			t.Errorf("Split(%q) = %#v", s, l)
		}
	}
}

func TestSplitIsNew(t *testing.T) {
	s := "a b"
	l := Split(s)
	l[0] = Word{7, "x"}
	_ = append(l[:1], Word{7, "x"})
	if !slices.Equal(Split(s), []Word{{0, "a"}, {2, "b"}}) {
		t.Errorf("Split = %#v", Split(s))
	}
}

// Promise 1.2: Lines.

func TestLines(t *testing.T) {
	for s, want := range map[string][]line{
		"":                  nil,
		"\n":                {{0, ""}},
		"\n\n":              {{0, ""}, {1, ""}},
		"a":                 {{0, "a"}},
		"a\n":               {{0, "a"}},
		"a\n\n":             {{0, "a"}, {2, ""}},
		"\na":               {{0, ""}, {1, "a"}},
		"ab\n\nc":           {{0, "ab"}, {3, ""}, {4, "c"}},
		"ab\n\nc\n":         {{0, "ab"}, {3, ""}, {4, "c"}},
		" \n ":              {{0, " "}, {2, " "}},
		"\u0416\u2032\nb":   {{0, "\u0416\u2032"}, {6, "b"}},
		"a\r\nb\vc\u0085d":  {{0, "a\r"}, {3, "b\vc\u0085d"}},
		"\xff\n\xc3\n\xe2a": {{0, "\xff"}, {2, "\xc3"}, {4, "\xe2a"}},
	} {
		if l := linesOf(s); !slices.Equal(l, want) {
			t.Errorf("Lines(%q) = %#v", s, l)
		}
	}
}

func TestLinesIsNeverNil(t *testing.T) {
	for _, s := range []string{"", "\n", "a"} {
		if Lines(s) == nil {
			t.Errorf("Lines(%q) is nil", s)
		}
	}
}

func TestLinesStopAndBeginAgain(t *testing.T) {
	for _, s := range []string{"a\nb\nc", "a", "a\n"} {
		lines := Lines(s)
		for range 3 {
			n := 0
			for at, text := range lines {
				if at != 0 || text != "a" {
					t.Errorf("%q begins with %q at %d", s, text, at)
				}
				n++
				break
			}
			if n != 1 {
				t.Errorf("%q: %d lines till the first stop", s, n)
			}
		}
	}
	lines := Lines("a\nb")
	for range lines {
		n := 0
		for range lines {
			n++
		}
		if n != 2 {
			t.Errorf("%d lines within", n)
		}
	}
}

// Promise 1.3: Bad.

func TestBadOfEachRune(t *testing.T) {
	good := classes()
	for r := range rune(utf8.MaxRune + 1) {
		_, ok := good[r]
		ok = ok || strings.ContainsRune("\n+,-./:|", r)
		if r >= 0xD800 && r <= 0xDFFF {
			continue // no text has these
		}
		s := "x\u2032" + string(r) + "\x00"
		want := 4
		if ok {
			want += utf8.RuneLen(r)
		}
		if at, bad := Bad(s); at != want || !bad {
			t.Errorf("Bad(%q) = %d, %v", s, at, bad)
		}
	}
}

func TestBadIsNone(t *testing.T) {
	for _, s := range []string{"", " ", "\n", "a", "+,-./:|", "0 1\n\nx_\u2034 \u00c0+ \u044f-\n", "09azAZ_\u2032\u2033\u2034\u00c0\u024f\u0391\u03c9\u0410\u044f"} {
		if at, bad := Bad(s); at != 0 || bad {
			t.Errorf("Bad(%q) = %d, %v", s, at, bad)
		}
	}
}

func TestBadIsOne(t *testing.T) {
	for s, want := range map[string]int{
		"a!": 1, "!": 0, "!a!": 0, "ab\t": 2, "a\r\n": 1, "\x00": 0, "a\x7f": 1,
		"*": 0, ";": 0, "{": 0, "}": 0, "~": 0, "\"": 0, "a=b": 1, "(": 0, "\\": 0,
		"\u00d7": 0, "a\u00f7": 1, "\u0416\u03a2": 2, "\u2032\u2035": 3, "\u00a0": 0, "\u0301": 0, "\U0001F600": 0,
		"\xff": 0, "a+b:c|d\n\xff": 8, "\u00e9\xff": 2, "a\xc3": 1, "\xc3a": 0, "\u2032\xe2\x80": 3, "\x80": 0,
		"\xed\xa0\x80": 0, "\xc0\x80": 0, "a\xf4\x90\x80\x80": 1, "a\ufffd": 1, "\ufeffa": 0,
	} {
		if at, bad := Bad(s); at != want || !bad {
			t.Errorf("Bad(%q) = %d, %v, not %d", s, at, bad, want)
		}
	}
}

// Promise 1.4: words, lines and names put together.

func TestWordsAreTheLine(t *testing.T) {
	for _, s := range texts(6, "a", " ", "\n", "\u0416", "\xff", "\xe2") {
		back := ""
		for i, w := range Split(s) {
			gap := w.At - len(back)
			if w.Text == "" || strings.Contains(w.Text, " ") || gap < 0 || i > 0 && gap == 0 {
				t.Fatalf("Split(%q) = %#v", s, Split(s))
			}
			back += strings.Repeat(" ", gap) + w.Text
		}
		back += strings.Repeat(" ", len(s)-len(back))
		if back != s {
			t.Fatalf("Split(%q) = %#v", s, Split(s))
		}
	}
}

func TestLinesAreTheText(t *testing.T) {
	for _, s := range texts(6, "a", " ", "\n", "\u0416", "\xff", "\xe2") {
		back := ""
		for at, text := range Lines(s) {
			if at != len(back) || strings.Contains(text, "\n") {
				t.Fatalf("Lines(%q) = %#v", s, linesOf(s))
			}
			back += text
			if len(back) < len(s) {
				back += "\n"
			} else if text == "" {
				t.Fatalf("Lines(%q) = %#v", s, linesOf(s))
			}
		}
		if back != s {
			t.Fatalf("Lines(%q) = %#v", s, linesOf(s))
		}
	}
}

func TestPrefixOfLettersIsAName(t *testing.T) {
	for _, s := range []string{"abcdefghijklmnop", "\u00c0\u024f\u0391\u03c9\u0410\u044fazAZ12_\u2032", "x1_", "\u0416", strings.Repeat("\u03c9", 13) + "___"} {
		if !Name(s) {
			t.Errorf("%q is no name", s)
		}
		for at, r := range s {
			if Class(r) != Letter {
				break
			}
			if prefix := s[:at+utf8.RuneLen(r)]; !Name(prefix) {
				t.Errorf("%q of %q is no name", prefix, s)
			}
		}
	}
}
