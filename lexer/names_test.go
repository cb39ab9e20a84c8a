package lexer_test

import (
	"slices"
	"strings"
	"testing"

	"majordomo/lexer"
)

func wantName(t *testing.T, s string, want bool) {
	t.Helper()
	if got := lexer.Name(s); got != want {
		t.Errorf("Name(%.80q): %v", s, got)
	}
}

func wantType(t *testing.T, s string, want bool) {
	t.Helper()
	if got := lexer.Type(s); got != want {
		t.Errorf("Type(%.80q): %v", s, got)
	}
}

// P11.1: names of one part and of several.
func TestNames(t *testing.T) {
	for _, s := range []string{"a", "z", "a1", "a_", "a__", "z09_", "file", "class", "true", "a::b", "a1::b_::c", "a_::b", "a0::z9", "class::if", strings.Repeat("a", 100000), "a" + strings.Repeat("::b", 100000)} {
		wantName(t, s, true)
		wantType(t, s, false)
	}
}

// P11.1: '::' at either end, one ':' alone, parts that begin with what they may not, and other texts that are no names.
func TestNoNames(t *testing.T) {
	for _, s := range []string{
		"", "::", ":", "::a", "a::", ":a", "a:", "a:b", "a:::b", "a::::b", "a::b::", "::a::b", "a::b:", "a::b:c", "a: :b", "a:: b",
		"1", "1a", "_", "_a", "a::1", "a::1b", "a::_", "a::_b", "a::b::2", "A", "Ab", "aB", "a::B", "a::bC", "A::b",
		" a", "a ", "a b", "a\n", "a\x00", "\x00a", "a-b", "a.b", "a/b", "$a", "'a'", "a#", "a`", "`a", "a{", "{a", "a@", "a[", "a\x7f",
		"é", "aé", "a\xff", "\xffa", "а", "aа", "ａ", "a１", "a٣", "a::é", "a：：b", strings.Repeat("a", 100000) + "A", strings.Repeat("a::", 100000), strings.Repeat(":", 100000),
	} {
		wantName(t, s, false)
	}
}

// P11.1: types.
func TestTypes(t *testing.T) {
	for _, s := range []string{"A", "Z", "Web", "Web_1", "A_", "A1", "Z09_", "Class", "A" + strings.Repeat("a", 100000)} {
		wantType(t, s, true)
		wantName(t, s, false)
	}
	for _, s := range []string{
		"", "a", "web", "1", "_", "_A", "1A", "AB", "WEB", "WeB", "Web::Site", "Web::site", "A:", "A::", "::A", ":A", "A b", "A ", " A", "A\n", "A\x00", "A-b", "A.", "A@", "A[", "A`", "A{", "@A", "[A", "$A",
		"É", "Aé", "A\xff", "\xffA", "А", "Ａ", "A１", "A" + strings.Repeat("a", 100000) + "A",
	} {
		wantType(t, s, false)
	}
}

// P11.1: texts one byte away from names and types, and short ones of the bytes that matter, with bytes that are next to those that may be.
func TestNamesNear(t *testing.T) {
	l := texts(7, "a", "0", "_", ":", "A")
	l = append(l, texts(4, "a", "z", "A", "Z", "0", "9", "_", ":", "`", "{", "@", "[", "/", ";")...)
	for _, s := range []string{"", "a", "ab", "a::b", "a1::b_::c2", "A", "Web_1", "Ab::c"} {
		l = append(l, near(s)...)
	}
	for _, s := range l {
		wantName(t, s, nameForm.MatchString(s))
		wantType(t, s, typeForm.MatchString(s))
	}
}

// P11.1: each keyword, and what is nearly one.
func TestKeywords(t *testing.T) {
	keywords := []string{"class", "define", "include", "if", "else", "true", "false", "and", "or"}
	for _, k := range keywords {
		if !lexer.Keyword(k) {
			t.Errorf("Keyword(%q): false", k)
		}
		l := append(near(k), strings.ToUpper(k), strings.ToUpper(k[:1])+k[1:], k+k, k+"::a", "a::"+k, k+"::"+k, "'"+k+"'", " "+k+" ")
		for _, s := range l {
			if got := lexer.Keyword(s); got != slices.Contains(keywords, s) {
				t.Errorf("Keyword(%q): %v", s, got)
			}
		}
	}
	for _, s := range []string{"", "file", "elsif", "unless", "not", "in", "node", "undef", "default", "elseif", "iff", "a", "\x00", strings.Repeat("if", 100000)} {
		if lexer.Keyword(s) {
			t.Errorf("Keyword(%.80q): true", s)
		}
	}
}
