package printer_test

import (
	"regexp"
	"slices"
	"strings"

	"majordomo/api"
	"majordomo/syntax"
)

// The words that a text can have, as forms.
var wordForms = map[int]*regexp.Regexp{
	api.WordName:   regexp.MustCompile(`^[a-z][a-z0-9_]*(::[a-z][a-z0-9_]*)*$`),
	api.WordType:   regexp.MustCompile(`^[A-Z][a-z0-9_]*$`),
	api.WordVar:    regexp.MustCompile(`^[a-z][a-z0-9_]*$`),
	api.WordText:   regexp.MustCompile(`^[^']*$`),
	api.WordMixed:  regexp.MustCompile(`^[^"]*$`),
	api.WordNumber: regexp.MustCompile(`^[0-9]{1,9}$`),
	api.WordSign:   regexp.MustCompile(`^(=>|==|!=|->|~>|[{}()\[\],:=!])$`),
}

// isWord tells whether some text, which has no more than 65536 bytes, is just this word.
func isWord(w api.Word) bool {
	size := len(w.Text)
	switch w.Kind {
	case api.WordVar:
		size++
	case api.WordText, api.WordMixed:
		size += 2
	}
	form := wordForms[w.Kind]
	return form != nil && size <= 65536 && form.MatchString(w.Text)
}

// speller makes words of nodes, each node once, whatever else is in them. bad: no words have these nodes.
type speller struct {
	nodes []api.Tree
	words []api.Word
	times []int
	bad   bool
}

func (s *speller) word(kind int, text string) {
	s.words = append(s.words, api.Word{Kind: kind, Text: text})
}

// say is words of signs and keywords.
func (s *speller) say(l ...string) {
	for _, text := range l {
		kind := api.WordSign
		if text[0] >= 'a' && text[0] <= 'z' {
			kind = api.WordName
		}
		s.word(kind, text)
	}
}

// list is nodes with words between them.
func (s *speller) list(l []int, between ...string) {
	for k, i := range l {
		if k > 0 {
			s.say(between...)
		}
		s.node(i)
	}
}

// node is the words of a node as the grammar's table has them, each operator in brackets. Where there are more below it, or less, than may be, they come out as another arena, or as none.
func (s *speller) node(i int) {
	if i < 0 || i >= len(s.nodes) || s.times[i] > 0 {
		s.bad = true
		return
	}
	s.times[i]++
	n := s.nodes[i]
	first, rest := n.L[:min(len(n.L), 1)], n.L[min(len(n.L), 1):]
	switch n.Kind {
	case api.TreeBlock:
		s.say("{")
		s.list(n.L)
		s.say("}")
	case api.TreeClass, api.TreeDefine:
		s.say(map[int]string{api.TreeClass: "class", api.TreeDefine: "define"}[n.Kind])
		s.word(api.WordName, n.Text)
		s.say("(")
		s.list(n.L[:max(len(n.L)-1, 0)], ",")
		s.say(")")
		s.list(n.L[max(len(n.L)-1, 0):])
	case api.TreeParam:
		s.word(api.WordVar, n.Text)
		if len(n.L) > 0 {
			s.say("=")
		}
		s.list(n.L)
	case api.TreeInclude:
		s.say("include")
		s.word(api.WordName, n.Text)
	case api.TreeSet:
		s.word(api.WordVar, n.Text)
		s.say("=")
		s.list(n.L)
	case api.TreeIf:
		s.say("if")
		s.list(first)
		s.list(rest, "else")
	case api.TreeResource:
		s.word(api.WordName, n.Text)
		s.say("{")
		s.list(first)
		s.say(":")
		s.list(rest, ",")
		s.say("}")
	case api.TreeAttr:
		s.word(api.WordName, n.Text)
		s.say("=>")
		s.list(n.L)
	case api.TreeChain:
		s.list(n.L)
	case api.TreeRef:
		s.word(api.WordType, n.Text)
		s.say("[")
		s.list(n.L)
		s.say("]")
	default:
		s.small(n)
	}
}

// small is the words of an arrow or a value.
func (s *speller) small(n api.Tree) {
	switch n.Kind {
	case api.TreeArrow:
		s.word(api.WordSign, n.Text)
	case api.TreeText:
		s.word(api.WordText, n.Text)
	case api.TreeMixed:
		s.word(api.WordMixed, n.Text)
	case api.TreeNumber:
		s.word(api.WordNumber, n.Text)
	case api.TreeVar:
		s.word(api.WordVar, n.Text)
	case api.TreeTrue:
		s.say("true")
	case api.TreeFalse:
		s.say("false")
	case api.TreeNot:
		s.say("!")
		s.list(n.L)
	case api.TreeOp:
		s.say("(")
		for k, i := range n.L {
			switch {
			case k == 1 && (n.Text == "and" || n.Text == "or"):
				s.word(api.WordName, n.Text)
			case k == 1:
				s.word(api.WordSign, n.Text)
			}
			s.node(i)
		}
		s.say(")")
	default:
		s.bad = true
	}
}

// taken tells whether an arena is what Parse answers for the words that it would have, each of which some text has.
func taken(a api.Arena) bool {
	if len(a.N) == 0 {
		return false
	}
	s := speller{nodes: a.N, times: make([]int, len(a.N))}
	s.node(len(a.N) - 1)
	if s.bad || len(s.words) < 2 {
		return false
	}
	l := s.words[1 : len(s.words)-1] // the manifest has no brackets
	for _, w := range l {
		if !isWord(w) {
			return false
		}
	}
	b, _, e := syntax.Parse(l)
	return e == api.OK && same(a, b)
}

// within stands in a text for a line feed that is in a string: it ends no line.
const within = 256 + '\n'

// text is a text whose runes are bytes, or within.
type text []rune

func plain(s string) text {
	var t text
	for _, b := range []byte(s) {
		t = append(t, rune(b))
	}
	return t
}

// quoted is a string as it stands.
func quoted(mark, s string) text {
	t := plain(mark + s + mark)
	for i, r := range t {
		if r == '\n' {
			t[i] = within
		}
	}
	return t
}

func (t text) String() string {
	var b strings.Builder
	for _, r := range t {
		b.WriteByte(byte(r & 255))
	}
	return b.String()
}

// in is the text with two spaces before each of its lines.
func (t text) in() text {
	out := plain("  ")
	for _, r := range t {
		out = append(out, r)
		if r == '\n' {
			out = append(out, plain("  ")...)
		}
	}
	return out
}

// model is the text of a node of an arena that is taken, as the document's table has it.
func model(a api.Arena, i int) text {
	n := a.N[i]
	var below []text
	for _, k := range n.L {
		below = append(below, model(a, k))
	}
	switch n.Kind {
	case api.TreeBlock:
		out := plain("{\n")
		for _, s := range below {
			out = slices.Concat(out, s.in(), plain("\n"))
		}
		return append(out, '}')
	case api.TreeClass, api.TreeDefine:
		last := len(below) - 1
		params := join(below[:last], ", ")
		if last > 0 {
			params = slices.Concat(plain("("), params, plain(")"))
		}
		keyword := map[int]string{api.TreeClass: "class ", api.TreeDefine: "define "}[n.Kind]
		return slices.Concat(plain(keyword+n.Text), params, plain(" "), below[last])
	case api.TreeParam:
		return join(append([]text{plain("$" + n.Text)}, below...), " = ")
	case api.TreeInclude:
		return plain("include " + n.Text)
	case api.TreeSet:
		return append(plain("$"+n.Text+" = "), below[0]...)
	case api.TreeIf:
		out := slices.Concat(plain("if "), below[0], plain(" "), below[1])
		if len(below) > 2 {
			out = slices.Concat(out, plain(" else "), below[2])
		}
		return out
	case api.TreeResource:
		out := slices.Concat(plain(n.Text+" { "), below[0], plain(":"))
		for k, attr := range below[1:] {
			out = slices.Concat(out, plain(" "), attr)
			if k+2 < len(below) {
				out = append(out, ',')
			}
		}
		return append(out, plain(" }")...)
	case api.TreeAttr:
		return append(plain(n.Text+" => "), below[0]...)
	case api.TreeChain:
		return join(below, " ")
	case api.TreeRef:
		return slices.Concat(plain(n.Text+"["), below[0], plain("]"))
	case api.TreeText:
		return quoted("'", n.Text)
	case api.TreeMixed:
		return quoted(`"`, n.Text)
	case api.TreeVar:
		return plain("$" + n.Text)
	case api.TreeTrue:
		return plain("true")
	case api.TreeFalse:
		return plain("false")
	case api.TreeNot:
		return append(plain("!"), below[0]...)
	case api.TreeOp:
		return slices.Concat(plain("("), below[0], plain(" "+n.Text+" "), below[1], plain(")"))
	}
	return plain(n.Text)
}

func join(l []text, between string) text {
	var out text
	for k, s := range l {
		if k > 0 {
			out = append(out, plain(between)...)
		}
		out = append(out, s...)
	}
	return out
}

// modelPrint is the text of an arena that is taken.
func modelPrint(a api.Arena) string {
	var out text
	for _, i := range a.N[len(a.N)-1].L {
		out = append(append(out, model(a, i)...), '\n')
	}
	return out.String()
}
