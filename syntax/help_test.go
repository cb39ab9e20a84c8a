package syntax_test

import (
	"slices"
	"testing"

	"majordomo/api"
	"majordomo/lexer"
	"majordomo/syntax"
)

func same(a, b api.Arena) bool {
	return slices.EqualFunc(a.N, b.N, func(x, y api.Tree) bool {
		return x.Kind == y.Kind && x.Text == y.Text && slices.Equal(x.L, y.L)
	})
}

// cut is the words of a text.
func cut(t *testing.T, text string) []api.Word {
	t.Helper()
	l, at, e := lexer.Lex(text)
	if e != api.OK {
		t.Fatalf("Lex(%q): %d at %d", text, e, at)
	}
	return l
}

// texts is what words say, for a test's log.
func texts(l []api.Word) []string {
	var out []string
	for _, w := range l[:min(len(l), 60)] {
		out = append(out, w.Text)
	}
	return out
}

// wantArena asks for a tree.
func wantArena(t *testing.T, l []api.Word, want api.Arena) {
	t.Helper()
	if a, at, e := syntax.Parse(l); e != api.OK || at != 0 || !same(a, want) {
		t.Errorf("Parse(%q): %v, %d, %d; want %v", texts(l), a, at, e, want)
	}
}

// wantFault asks for an error, and nothing beside it.
func wantFault(t *testing.T, l []api.Word, at int, want api.Errno) {
	t.Helper()
	if a, got, e := syntax.Parse(l); e != want || got != at || a.N != nil {
		t.Errorf("Parse(%q): %d nodes, %d, %d; want %d at %d", texts(l), len(a.N), got, e, want, at)
	}
}

// wantOnce asks that each node but the last is below exactly one, which stands behind it.
func wantOnce(t *testing.T, l []api.Word) {
	t.Helper()
	a, _, _ := syntax.Parse(l)
	above := make([]int, len(a.N))
	for i, x := range a.N {
		for _, below := range x.L {
			if below < 0 || below >= i {
				t.Fatalf("Parse(%q): node %d is below node %d", texts(l), below, i)
			}
			above[below]++
		}
	}
	for i, n := range above {
		want := 1
		if i == len(above)-1 {
			want = 0
		}
		if n != want {
			t.Errorf("Parse(%q): node %d of %d is below %d nodes", texts(l), i, len(above), n)
		}
	}
}

// wantModel asks for all that the document says of words; it tells whether they are a manifest.
func wantModel(t *testing.T, l []api.Word) bool {
	t.Helper()
	x, at, e, ways := model(l)
	if ways > 1 {
		t.Fatalf("the model reads %q in %d ways", texts(l), ways)
	}
	if e != api.OK {
		wantFault(t, l, at, e)
		return false
	}
	wantArena(t, l, arena(x))
	wantOnce(t, l)
	return true
}

// The short forms of words.
func n(text string) api.Word { return api.Word{Kind: api.WordName, Text: text} }

func s(text string) api.Word { return api.Word{Kind: api.WordSign, Text: text} }

func v(text string) api.Word { return api.Word{Kind: api.WordVar, Text: text} }

func q(text string) api.Word { return api.Word{Kind: api.WordText, Text: text} }

func ty(text string) api.Word { return api.Word{Kind: api.WordType, Text: text} }

func repeat(n int, l ...api.Word) []api.Word { return slices.Repeat(l, n) }

// join is the words of all of them, one behind the other.
func join(l ...[]api.Word) []api.Word { return slices.Concat(l...) }

func keywords() []api.Word {
	return []api.Word{n("class"), n("define"), n("include"), n("if"), n("else"), n("true"), n("false"), n("and"), n("or")}
}

func signs() []api.Word {
	return []api.Word{s("{"), s("}"), s("("), s(")"), s("["), s("]"), s(","), s(":"), s("="), s("=="), s("!="), s("=>"), s("->"), s("~>"), s("!")}
}

// others is a word of each other kind, and names of all sorts.
func others() []api.Word {
	return []api.Word{n("a"), n("b::c"), ty("A"), v("x"), q("t"), {Kind: api.WordMixed, Text: "${m}"}, {Kind: api.WordNumber, Text: "1"}}
}

// never is words that are never valid.
func never() []api.Word {
	return []api.Word{{}, {Kind: 8, Text: "a"}, {Kind: -1, Text: "{"}, {Kind: 0, Text: "true"}, {Kind: 1 << 40, Text: "'"}, s(""), s("or"), s("true"), s("<-"), s("==="), s("a"), s(" {"), s("{ "), s("!!"), s(">"), s("=\x00")}
}

// odd is words as no text has them, which a manifest may yet have, or not, as their kind and text say.
func odd() []api.Word {
	return []api.Word{n(""), n("{"), n("true "), n("Class"), n(":"), ty("class"), ty(""), v("if"), v(""), q("or"), q("{"), n("->"), v("~>"), n("}"), n("=="), n(","), ty("["), q("!"), {Kind: api.WordNumber, Text: "x"}, {Kind: api.WordMixed, Text: "}"}}
}

// everything is all those words.
func everything() []api.Word {
	return join(keywords(), signs(), others(), never(), odd())
}

// dice is a fixed run of numbers, so that each test run asks the same.
type dice uint64

func (d *dice) below(n int) int {
	*d = *d*6364136223846793005 + 1442695040888963407
	return int(uint64(*d) >> 33 % uint64(n))
}

// must is the words of a text that a test is written with.
func must(text string) []api.Word {
	l, _, e := lexer.Lex(text)
	if e != api.OK {
		panic(text)
	}
	return l
}
