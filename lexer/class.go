package lexer

// class is what a rune can be to a word.
type class int

const (
	other  class = iota // part of no word but a sign or what stands between quotes
	blank               // white space
	hash                // ahead of a comment
	small               // a to z
	great               // A to Z
	digit               // 0 to 9
	low                 // _
	dollar              // ahead of a variable's name
	single              // '
	double              // "
)

// classOf knows the letters and digits of ASCII alone, as the document names no others.
func classOf(r rune) class {
	switch {
	case r >= 'a' && r <= 'z':
		return small
	case r >= 'A' && r <= 'Z':
		return great
	case r >= '0' && r <= '9':
		return digit
	}
	switch r {
	case '\t', '\n', '\r', ' ':
		return blank
	case '#':
		return hash
	case '_':
		return low
	case '$':
		return dollar
	case '\'':
		return single
	case '"':
		return double
	}
	return other
}
