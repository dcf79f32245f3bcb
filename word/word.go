// Package word is layer 1: see shared/doc/01-word.md.
package word

import (
	"iter"
	"strings"

	"tracery/api"
)

// Word is a word of a line, and the place of its first byte.
type Word struct {
	At   int
	Text string
}

// The classes of runes.
const (
	None = iota
	Letter
	Digit
	Sign
	Blank
)

const (
	mostSigns  = 3 // signs at a name's end
	mostDigits = 9 // digits of 999999999, the greatest number
)

// Class answers a rune's class.
func Class(r rune) int {
	switch {
	case isLetter(r):
		return Letter
	case '0' <= r && r <= '9':
		return Digit
	case r == '_', 0x2032 <= r && r <= 0x2034:
		return Sign
	case r == ' ':
		return Blank
	}
	return None
}

// isLetter leaves out the runes that stand among letters and are none: two signs of reckoning (U+00D7, U+00F7), and a place without a rune (U+03A2).
func isLetter(r rune) bool {
	switch {
	case r == 0x00D7, r == 0x00F7, r == 0x03A2:
		return false
	case 'a' <= r && r <= 'z', 'A' <= r && r <= 'Z':
		return true
	}
	return 0x00C0 <= r && r <= 0x024F || 0x0391 <= r && r <= 0x03C9 || 0x0410 <= r && r <= 0x044F
}

// Name tells whether a text is a name: a letter, then letters and digits, and a few signs at the end.
func Name(s string) bool {
	runes, signs := 0, 0
	for _, r := range s {
		if runes == api.MaxName {
			return false
		}
		switch Class(r) {
		case Letter:
			if signs > 0 {
				return false
			}
		case Digit:
			if runes == 0 || signs > 0 {
				return false
			}
		case Sign:
			if runes == 0 || signs == mostSigns {
				return false
			}
			signs++
		default:
			return false
		}
		runes++
	}
	return runes > 0
}

// Number answers the number that a text is, and whether it is one.
func Number(s string) (int, bool) {
	// Without noughts ahead, a text that is longer is a greater number: what is left can't run over.
	if s == "" || len(s) > mostDigits || len(s) > 1 && s[0] == '0' {
		return 0, false
	}
	n := 0
	for _, r := range s {
		if Class(r) != Digit {
			return 0, false
		}
		n = 10*n + int(r-'0')
	}
	return n, true
}

// Split answers a line's words, in order.
func Split(line string) []Word {
	var words []Word
	start := 0
	for at, r := range line {
		if Class(r) == Blank {
			words = addWord(words, line, start, at)
			start = at + 1
		}
	}
	return addWord(words, line, start, len(line))
}

// addWord adds what stands from start to end, if there is anything: between two blanks that touch, and between a blank and the line's end, there is no word.
func addWord(words []Word, line string, start, end int) []Word {
	if start == end {
		return words
	}
	// What is handed out shares no memory with what was handed in.
	return append(words, Word{start, strings.Clone(line[start:end])})
}

// Lines goes through a text's lines, without their ends, each with the place of its first byte.
func Lines(s string) iter.Seq2[int, string] {
	return func(yield func(int, string) bool) {
		start := 0
		for at, r := range s {
			if r != '\n' {
				continue
			}
			if !yield(start, strings.Clone(s[start:at])) {
				return
			}
			start = at + 1
		}
		// Behind the last line's end there is no line without bytes.
		if start < len(s) {
			yield(start, strings.Clone(s[start:]))
		}
	}
}

// Bad answers the place of the first rune that may not stand in a text, and whether there is one.
func Bad(s string) (int, bool) {
	for at, r := range s {
		// A byte that is no UTF-8 comes as U+FFFD, which has no class itself.
		if Class(r) == None && !isMark(r) {
			return at, true
		}
	}
	return 0, false
}

// isMark tells of the runes without a class that may stand in a text all the same.
func isMark(r rune) bool {
	return r == '\n' || '+' <= r && r <= '/' || r == ':' || r == '|'
}
