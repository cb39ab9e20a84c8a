package printer

import (
	"strings"

	"majordomo/api"
	"majordomo/lexer"
)

// label is a node's Text.
type label string

func (s label) none() bool { return s == "" }

// name is a name that no keyword takes the place of.
func (s label) name() bool { return !lexer.Keyword(string(s)) && s.is(api.WordName) }

// attr is any name of one part, a keyword too.
func (s label) attr() bool { return !strings.Contains(string(s), ":") && s.is(api.WordName) }

func (s label) kind() bool { return s.is(api.WordType) }

func (s label) variable() bool { return s.is(api.WordVar) }

func (s label) text() bool { return s.is(api.WordText) }

func (s label) mixed() bool { return s.is(api.WordMixed) }

func (s label) number() bool { return s.is(api.WordNumber) }

func (s label) arrow() bool { return s == "->" || s == "~>" }

func (s label) operator() bool {
	return s == "==" || s == "!=" || s == "and" || s == "or"
}

// is tells whether some text is just one word of this kind with this Text: what such a word covers would be one.
func (s label) is(kind int) bool {
	l, _, e := lexer.Lex(covered(kind, string(s)))
	return e == api.OK && len(l) == 1 && l[0].Kind == kind && l[0].Text == string(s)
}

// covered is what a word covers of a text.
func covered(kind int, text string) string {
	switch kind {
	case api.WordVar:
		return "$" + text
	case api.WordText:
		return "'" + text + "'"
	case api.WordMixed:
		return `"` + text + `"`
	}
	return text
}
