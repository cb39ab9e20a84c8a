package lexer_test

import (
	"testing"

	"majordomo/api"
	"majordomo/lexer"
)

// wantCovered asks that there is only white space and comments ahead of the words, between them and behind them, and that what a word covers is that word on its own.
func wantCovered(t *testing.T, text string) {
	t.Helper()
	l, _, _ := lexer.Lex(text)
	end := 0
	for _, w := range append(l, api.Word{At: len(text)}) {
		if w.At < end || w.At+size(w) > len(text) {
			t.Fatalf("Lex(%q): a word at %d, of %d bytes, behind %d", text, w.At, size(w), end)
		}
		if gap := text[end:w.At]; skipForm.FindString(gap) != gap {
			t.Fatalf("Lex(%q): %q is no part of a word", text, gap)
		}
		end = w.At + size(w)
		if w.Kind == 0 {
			return
		}
		alone := w
		alone.At = 0
		wantWords(t, text[w.At:end], alone)
	}
}

// wantAll asks for all that the document says of a text.
func wantAll(t *testing.T, text string) {
	t.Helper()
	wantModel(t, text)
	if _, _, e := lexer.Lex(text); e == api.OK {
		wantCovered(t, text)
	}
}

// P11.2, P11.3: all short texts of the bytes that matter, and of the parts of names, of signs and of strings.
func TestShort(t *testing.T) {
	for _, s := range texts(3, "a", "z", "A", "Z", "0", "9", "_", ":", "$", "'", `"`, "#", "\n", "\r", "\t", " ", "{", "}", "(", ")", "[", "]", ",", "=", "!", ">", "-", "~", "\xc3", "\xa9", "é", ";", "\x00") {
		wantAll(t, s)
	}
	for _, s := range texts(6, "a", "0", "_", ":", "A") {
		wantAll(t, s)
	}
	for _, s := range texts(6, "=", "!", ">", "-", "~") {
		wantAll(t, s)
	}
	for _, s := range texts(6, "'", `"`, "#", "\n", "a") {
		wantAll(t, s)
	}
	for _, s := range texts(5, "$", "a", "::", "1", "A", " ") {
		wantAll(t, s)
	}
	for _, s := range texts(4, "1", "1234", "12345678", "123456789", "a", " ", "_") {
		wantAll(t, s)
	}
}

// P11.2, P11.3: texts one byte away from manifests.
func TestNear(t *testing.T) {
	for _, text := range []string{
		"class a($b,$c=1){}",
		"if $x==1 and !$y{include a}",
		"file { '/a': mode => \"${m}\", } # no\nFile['/a'] ~> Service['ssh']\n",
		"class base { service { 'ssh': } } file { '/etc/motd': content => \"${node} ${fact_os}\" } include base File['/etc/motd'] ~> Service['ssh']",
		"define web::site($port = 123456789) { a::b { \"x\ny\": } }\r\n\tWeb_1['é'] -> A[1]",
	} {
		for _, s := range near(text) {
			wantAll(t, s)
		}
	}
}

// P11.2, P11.3: longer texts, by fixed dice.
func TestDice(t *testing.T) {
	sound := []string{"a", "file", "if", "web::site", "a::b::c", "A", "Web_1", "$x", "$fact_os", "''", "'/etc/motd'", "'a\nb'", "'\xff#'", `""`, `"${node} $"`, "\"'\n\"", "0", "42", "123456789", "{", "}", "(", ")", "[", "]", ",", ":", "=", "!", "=>", "==", "!=", "->", "~>", " ", "\n", "\t", "\r\n", "# no ' \" ;\n", "#\n"}
	rare := append([]string{"1234567890", "'", `"`, "$", "-", "~", ">", "_", ";", "é", "\xff", "::", "a::"}, sound...)
	d := dice(11)
	taken, not := 0, 0
	for range 20000 {
		pieces := sound
		if d.below(4) == 0 {
			pieces = rare
		}
		text := d.text(d.below(30), pieces)
		wantAll(t, text)
		if _, _, e := lexer.Lex(text); e == api.OK {
			taken++
		} else {
			not++
		}
	}
	if taken < 2000 || not < 2000 {
		t.Errorf("%d texts were taken, %d not", taken, not)
	}
}
