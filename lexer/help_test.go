package lexer_test

import (
	"fmt"
	"regexp"
	"slices"
	"strings"
	"testing"

	"majordomo/api"
	"majordomo/lexer"
)

// The document's words, as forms: what is skipped, and each kind of words, with what is its Text as the group.
var (
	skipForm  = regexp.MustCompile(`^(?:[\x09\x0a\x0d\x20]|#[^\x0a]*)*`)
	manyForm  = regexp.MustCompile(`^[0-9]{10}`)
	nameForm  = regexp.MustCompile(`^[a-z][a-z0-9_]*(?:::[a-z][a-z0-9_]*)*$`)
	typeForm  = regexp.MustCompile(`^[A-Z][a-z0-9_]*$`)
	wordForms = []struct {
		kind int
		form *regexp.Regexp
	}{
		{api.WordName, regexp.MustCompile(`^([a-z][a-z0-9_]*(?:::[a-z][a-z0-9_]*)*)`)},
		{api.WordType, regexp.MustCompile(`^([A-Z][a-z0-9_]*)`)},
		{api.WordVar, regexp.MustCompile(`^\$([a-z][a-z0-9_]*)`)},
		{api.WordText, regexp.MustCompile(`^'([^']*)'`)},
		{api.WordMixed, regexp.MustCompile(`^"([^"]*)"`)},
		{api.WordNumber, regexp.MustCompile(`^([0-9]{1,9})`)},
		{api.WordSign, regexp.MustCompile(`^(=>|==|!=|->|~>|[{}()\[\],:=!])`)},
	}
)

// longest is the longest word with which a text begins, and how many bytes it covers: 0 if there is none.
func longest(s string) (w api.Word, size int) {
	if manyForm.MatchString(s) {
		return api.Word{}, 0
	}
	for _, x := range wordForms {
		if at := x.form.FindStringSubmatchIndex(s); at != nil && at[1] > size {
			w, size = api.Word{Kind: x.kind, Text: s[at[2]:at[3]]}, at[1]
		}
	}
	return w, size
}

// model is what Lex answers for a text that is not too long.
func model(text string) ([]api.Word, int, api.Errno) {
	var l []api.Word
	at := 0
	for {
		at += len(skipForm.FindString(text[at:]))
		if at == len(text) {
			return l, 0, api.OK
		}
		w, size := longest(text[at:])
		if size == 0 {
			return nil, at, api.ErrToken
		}
		w.At = at
		l = append(l, w)
		at += size
	}
}

// size is how many bytes of a text a word covers.
func size(w api.Word) int {
	switch w.Kind {
	case api.WordVar:
		return len(w.Text) + 1
	case api.WordText, api.WordMixed:
		return len(w.Text) + 2
	}
	return len(w.Text)
}

func wantWords(t *testing.T, text string, want ...api.Word) {
	t.Helper()
	if l, at, e := lexer.Lex(text); e != api.OK || at != 0 || !slices.Equal(l, want) {
		t.Errorf("Lex(%.80q): %.800s, %d, %d; want %.800s", text, fmt.Sprint(l), at, e, fmt.Sprint(want))
	}
}

func wantFault(t *testing.T, text string, at int, want api.Errno) {
	t.Helper()
	if l, got, e := lexer.Lex(text); e != want || got != at || len(l) > 0 {
		t.Errorf("Lex(%.80q): %.800s, %d, %d; want %d at %d", text, fmt.Sprint(l), got, e, want, at)
	}
}

// wantModel asks for what the document's words say of a text.
func wantModel(t *testing.T, text string) {
	t.Helper()
	l, at, e := model(text)
	if e == api.OK {
		wantWords(t, text, l...)
	} else {
		wantFault(t, text, at, e)
	}
}

// word is a word that begins behind so many bytes.
func word(kind int, text string, at int) api.Word {
	return api.Word{Kind: kind, Text: text, At: at}
}

// texts is all texts of up to so many of the pieces.
func texts(most int, pieces ...string) []string {
	out := []string{""}
	last := out
	for range most {
		var longer []string
		for _, s := range last {
			for _, p := range pieces {
				longer = append(longer, s+p)
			}
		}
		out = append(out, longer...)
		last = longer
	}
	return out
}

// allBytes is the text of each byte alone.
func allBytes() []string {
	var l []string
	for c := range 256 {
		l = append(l, string([]byte{byte(c)}))
	}
	return l
}

// near is the texts one byte away from this one, and itself.
func near(s string) []string {
	out := []string{s}
	for at := range len(s) + 1 {
		for _, b := range allBytes() {
			out = append(out, s[:at]+b+s[at:])
			if at < len(s) {
				out = append(out, s[:at]+b+s[at+1:])
			}
		}
		if at < len(s) {
			out = append(out, s[:at]+s[at+1:])
		}
	}
	return out
}

// dice is a fixed run of numbers, so that each test run asks the same.
type dice uint64

func (d *dice) below(n int) int {
	*d = *d*6364136223846793005 + 1442695040888963407
	return int(uint64(*d) >> 33 % uint64(n))
}

// text is so many of the pieces.
func (d *dice) text(n int, pieces []string) string {
	var b strings.Builder
	for range n {
		b.WriteString(pieces[d.below(len(pieces))])
	}
	return b.String()
}
