package lexer

import (
	"slices"
	"strings"

	"majordomo/api"
)

const (
	skipped    = 0 // the kind of a piece that is no word
	mostDigits = 9
)

// piece is what is cut off the beginning of a text: a word of a kind, or white space or a comment. None of size 0 can be cut. The bytes ahead and behind are not in the word's Text.
type piece struct{ kind, size, ahead, behind int }

// cut is the longest piece with which a text begins, whose first rune is of this class.
func cut(s string, c class) piece {
	switch c {
	case blank:
		return piece{kind: skipped, size: 1}
	case hash:
		return piece{kind: skipped, size: comment(s)}
	case small:
		return piece{kind: api.WordName, size: name(s)}
	case great:
		return piece{kind: api.WordType, size: part(s, great)}
	case digit:
		return piece{kind: api.WordNumber, size: number(s)}
	case dollar:
		return piece{kind: api.WordVar, size: variable(s), ahead: 1}
	case single:
		return piece{kind: api.WordText, size: quoted(s), ahead: 1, behind: 1}
	case double:
		return piece{kind: api.WordMixed, size: quoted(s), ahead: 1, behind: 1}
	}
	return piece{kind: api.WordSign, size: sign(s)}
}

// comment, name, number, variable, quoted and sign are how many bytes the longest one has with which a text begins, 0 if it begins with none.
func comment(s string) int {
	if end := strings.IndexByte(s, '\n'); end >= 0 {
		return end
	}
	return len(s)
}

func name(s string) int {
	size := part(s, small)
	for size > 0 && strings.HasPrefix(s[size:], "::") {
		more := part(s[size+2:], small)
		if more == 0 {
			break
		}
		size += 2 + more
	}
	return size
}

func number(s string) int {
	if size := span(s, digit); size <= mostDigits {
		return size
	}
	return 0
}

func variable(s string) int {
	size := part(s[1:], small)
	if size == 0 {
		return 0
	}
	return 1 + size
}

func quoted(s string) int {
	inside := strings.IndexByte(s[1:], s[0])
	if inside < 0 {
		return 0
	}
	return inside + 2
}

func sign(s string) int {
	// Those of two bytes stand first, as the longest one is asked for.
	for _, x := range [...]string{"=>", "==", "!=", "->", "~>", "{", "}", "(", ")", "[", "]", ",", ":", "=", "!"} {
		if strings.HasPrefix(s, x) {
			return len(x)
		}
	}
	return 0
}

// part is how many bytes of a text are one rune of the class first and what may stand behind it in a name or a type.
func part(s string, first class) int {
	if s == "" || classOf(rune(s[0])) != first {
		return 0
	}
	return 1 + span(s[1:], small, digit, low)
}

// span is how many bytes of a text stand ahead of the first rune of any class but these.
func span(s string, classes ...class) int {
	for i, r := range s {
		if !slices.Contains(classes, classOf(r)) {
			return i
		}
	}
	return len(s)
}
