package syntax_test

import (
	"strings"

	"majordomo/api"
)

// tree is a node with what is below it. One of kind 0 stands for a word whose Text the node above it takes.
type tree struct {
	kind  int
	text  string
	below []tree
}

// arena is the nodes of a tree in the order in which they end.
func arena(x tree) api.Arena {
	var a api.Arena
	var lay func(tree) int
	lay = func(x tree) int {
		n := api.Tree{Kind: x.kind, Text: x.text}
		for _, y := range x.below {
			n.L = append(n.L, lay(y))
		}
		a.N = append(a.N, n)
		return len(a.N) - 1
	}
	lay(x)
	return a
}

func count(x tree) int {
	n := 1
	for _, y := range x.below {
		n += count(y)
	}
	return n
}

func deep(x tree) int {
	n := 0
	for _, y := range x.below {
		n = max(n, deep(y))
	}
	return n + 1
}

// match goes through words in all ways in which the grammar's table permits it.
type match struct {
	words []api.Word
	far   int                   // the furthest word that was asked for
	asked []func(api.Word) bool // what it was asked for behind the last word
}

// form is a part of the table's right sides: it goes on by then with each way to read it from a word on.
type form func(m *match, at int, then func(at int, got []tree))

// words is a word for which is holds; kept: its text is a node's.
func words(kept bool, is func(api.Word) bool) form {
	return func(m *match, at int, then func(int, []tree)) {
		m.far = max(m.far, at)
		if at == len(m.words) {
			m.asked = append(m.asked, is)
			return
		}
		if !is(m.words[at]) {
			return
		}
		var got []tree
		if kept {
			got = []tree{{text: m.words[at].Text}}
		}
		then(at+1, got)
	}
}

// given is this very word.
func given(kept bool, kind int, text string) form {
	return words(kept, func(w api.Word) bool { return w.Kind == kind && w.Text == text })
}

func sign(text string) form { return given(false, api.WordSign, text) }

func keyword(text string) form { return given(false, api.WordName, text) }

// kind is any word of a kind.
func kind(k int) form {
	return words(true, func(w api.Word) bool { return w.Kind == k })
}

func isKeyword(s string) bool {
	return strings.Contains(" class define include if else true false and or ", " "+s+" ") && s != ""
}

func seq(l ...form) form {
	return func(m *match, at int, then func(int, []tree)) {
		if len(l) == 0 {
			then(at, nil)
			return
		}
		l[0](m, at, func(at int, first []tree) {
			seq(l[1:]...)(m, at, func(at int, rest []tree) {
				then(at, append(append([]tree(nil), first...), rest...))
			})
		})
	}
}

func either(l ...form) form {
	return func(m *match, at int, then func(int, []tree)) {
		for _, f := range l {
			f(m, at, then)
		}
	}
}

func perhaps(l ...form) form { return either(seq(), seq(l...)) }

func many(l ...form) form {
	return func(m *match, at int, then func(int, []tree)) {
		perhaps(seq(l...), many(l...))(m, at, then)
	}
}

// node makes a node of what is read: its Text is that of the word that is kept, if one is.
func node(kind int, l ...form) form {
	return func(m *match, at int, then func(int, []tree)) {
		seq(l...)(m, at, func(at int, got []tree) {
			x := tree{kind: kind, below: got}
			if len(got) > 0 && got[0].kind == 0 {
				x.text, x.below = got[0].text, got[1:]
			}
			then(at, []tree{x})
		})
	}
}

// folded is parts with operators between them, of which the last one is the node on top.
func folded(part form, operators ...form) form {
	return func(m *match, at int, then func(int, []tree)) {
		seq(part, many(either(operators...), part))(m, at, func(at int, got []tree) {
			then(at, []tree{fold(got)})
		})
	}
}

func fold(got []tree) tree {
	if len(got) == 1 {
		return got[0]
	}
	last := len(got) - 1
	return tree{api.TreeOp, got[last-1].text, []tree{fold(got[:last-1]), got[last]}}
}

// The table 'Grammar', row by row.

func anyName(m *match, at int, then func(int, []tree)) {
	words(true, func(w api.Word) bool { return w.Kind == api.WordName && !strings.Contains(w.Text, ":") })(m, at, then)
}

func name(m *match, at int, then func(int, []tree)) {
	words(true, func(w api.Word) bool { return w.Kind == api.WordName && !isKeyword(w.Text) })(m, at, then)
}

func manifest(m *match, at int, then func(int, []tree)) {
	node(api.TreeBlock, many(statement))(m, at, func(at int, got []tree) {
		m.far = max(m.far, at)
		if at == len(m.words) {
			then(at, got)
		}
	})
}

func block(m *match, at int, then func(int, []tree)) {
	node(api.TreeBlock, sign("{"), many(statement), sign("}"))(m, at, then)
}

func statement(m *match, at int, then func(int, []tree)) {
	either(
		node(api.TreeClass, keyword("class"), name, perhaps(params), block),
		node(api.TreeDefine, keyword("define"), name, perhaps(params), block),
		node(api.TreeInclude, keyword("include"), name),
		node(api.TreeSet, kind(api.WordVar), sign("="), value),
		node(api.TreeIf, keyword("if"), value, block, perhaps(keyword("else"), block)),
		node(api.TreeResource, name, sign("{"), value, sign(":"), perhaps(attr, many(sign(","), attr)), sign("}")),
		node(api.TreeChain, ref, arrow, ref, many(arrow, ref)),
	)(m, at, then)
}

func params(m *match, at int, then func(int, []tree)) {
	seq(sign("("), perhaps(param, many(sign(","), param)), sign(")"))(m, at, then)
}

func param(m *match, at int, then func(int, []tree)) {
	node(api.TreeParam, kind(api.WordVar), perhaps(sign("="), value))(m, at, then)
}

func attr(m *match, at int, then func(int, []tree)) {
	node(api.TreeAttr, anyName, sign("=>"), value)(m, at, then)
}

func ref(m *match, at int, then func(int, []tree)) {
	node(api.TreeRef, kind(api.WordType), sign("["), value, sign("]"))(m, at, then)
}

func arrow(m *match, at int, then func(int, []tree)) {
	node(api.TreeArrow, either(given(true, api.WordSign, "->"), given(true, api.WordSign, "~>")))(m, at, then)
}

func value(m *match, at int, then func(int, []tree)) {
	folded(both, given(true, api.WordName, "or"))(m, at, then)
}

func both(m *match, at int, then func(int, []tree)) {
	folded(equal, given(true, api.WordName, "and"))(m, at, then)
}

func equal(m *match, at int, then func(int, []tree)) {
	folded(plain, given(true, api.WordSign, "=="), given(true, api.WordSign, "!="))(m, at, then)
}

func plain(m *match, at int, then func(int, []tree)) {
	either(
		node(api.TreeNot, sign("!"), plain),
		seq(sign("("), value, sign(")")),
		node(api.TreeText, kind(api.WordText)),
		node(api.TreeMixed, kind(api.WordMixed)),
		node(api.TreeNumber, kind(api.WordNumber)),
		node(api.TreeVar, kind(api.WordVar)),
		node(api.TreeTrue, keyword("true")),
		node(api.TreeFalse, keyword("false")),
	)(m, at, then)
}

// model is what Parse answers for words that are not too many. As from each symbol of the grammar some words come, a word is asked for exactly if those ahead of it are a manifest's beginning. ways is in how many ways they are a manifest.
func model(l []api.Word) (x tree, at int, e api.Errno, ways int) {
	m := &match{words: l}
	manifest(m, 0, func(_ int, got []tree) {
		x = got[0]
		ways++
	})
	switch {
	case ways == 0:
		return tree{}, m.far, api.ErrSyntax, 0
	case count(x) > 1024 || deep(x) > 32:
		return tree{}, 0, api.ErrLong, ways
	}
	return x, 0, api.OK, ways
}
