package syntax_test

import (
	"slices"
	"testing"

	"majordomo/api"
	"majordomo/syntax"
)

// brackets is an if whose value stands in so many pairs of brackets.
func brackets(pairs int) []api.Word {
	return join([]api.Word{n("if")}, repeat(pairs, s("(")), []api.Word{q("t")}, repeat(pairs, s(")")), []api.Word{s("{"), s("}")})
}

// bracketsTree is that if: brackets are no nodes, and nothing is deeper for them.
func bracketsTree() api.Arena {
	return api.Arena{N: []api.Tree{x(api.TreeText, "t"), x(api.TreeBlock, ""), x(api.TreeIf, "", 0, 1), x(api.TreeBlock, "", 2)}}
}

// P12.1: 4096 words, and 4097, whatever they are.
func TestTokens(t *testing.T) {
	wantArena(t, brackets(2046), bracketsTree()) // 4096 words
	wantFault(t, join([]api.Word{v("x"), s("=")}, repeat(2047, s("(")), []api.Word{q("t")}, repeat(2047, s(")"))), 0, api.ErrLong)
	for _, w := range []api.Word{s("}"), n("include"), s("("), {}} {
		wantFault(t, repeat(4097, w), 0, api.ErrLong)
		wantFault(t, repeat(10000, w), 0, api.ErrLong)
	}
	wantFault(t, repeat(4096, s("}")), 0, api.ErrSyntax)
	wantFault(t, append(brackets(2046)[:4095:4095], s(":")), 4095, api.ErrSyntax)
	wantFault(t, append(brackets(2046)[:4095:4095], n("include")), 4096, api.ErrSyntax)
	// However deep words go, they are refused where they stop being a manifest.
	wantFault(t, join([]api.Word{v("x"), s("=")}, repeat(4094, s("("))), 4096, api.ErrSyntax)
	wantFault(t, join([]api.Word{v("x"), s("=")}, repeat(4094, s("!"))), 4096, api.ErrSyntax)
	wantFault(t, append(repeat(1365, n("if"), n("true"), s("{")), s("}")), 4096, api.ErrSyntax)
	wantFault(t, append(repeat(1365, n("if"), n("true"), s("{")), s(")")), 4095, api.ErrSyntax)
	wantFault(t, join([]api.Word{v("x"), s("=")}, repeat(2047, q("t"), n("or"))), 4096, api.ErrSyntax)
}

// trees is manifests whose trees have so many nodes, of few words each, and of little depth.
func trees(nodes int) [][]api.Word {
	var l [][]api.Word
	spare := func(words []api.Word, have int) []api.Word {
		return join(words, repeat(nodes-have, n("include"), n("a")))
	}
	l = append(l, spare(nil, 1))
	// each of two nodes
	l = append(l, spare(repeat(500, v("x"), s("="), n("true")), 1001))
	l = append(l, spare(join([]api.Word{n("f"), s("{"), q("t"), s(":")}, repeat(400, n("a"), s("=>"), q("v"), s(","))[:1599], []api.Word{s("}")}), 803))
	l = append(l, spare(join([]api.Word{n("class"), n("c"), s("(")}, repeat(900, v("x"), s(","))[:1799], []api.Word{s(")"), s("{"), s("}")}), 903))
	// each of three nodes: a ref with its title, and an arrow
	l = append(l, spare(repeat(300, ty("A"), s("["), q("t"), s("]"), s("->"))[:1499], 301*3-3+1))
	// all of them in a block
	l = append(l, join([]api.Word{n("class"), n("c"), s("{")}, repeat(nodes-3, n("include"), n("a")), []api.Word{s("}")}))
	return l
}

// P12.1: 1024 nodes, and 1025.
func TestTree(t *testing.T) {
	for i, l := range trees(1024) {
		a, at, e := syntax.Parse(l)
		if len(a.N) != 1024 || at != 0 || e != api.OK {
			t.Errorf("case %d: %d nodes, %d, %d; want 1024", i, len(a.N), at, e)
		}
		wantOnce(t, l)
		wantFault(t, append(slices.Clip(l), s("=")), len(l), api.ErrSyntax)
	}
	for _, l := range append(trees(1025), trees(1400)...) {
		wantFault(t, l, 0, api.ErrLong)
		// Words that are no manifest are refused as such, whatever the tree of those ahead would be.
		wantFault(t, append(slices.Clip(l), s("=")), len(l), api.ErrSyntax)
		wantFault(t, append(slices.Clip(l), n("include")), len(l)+1, api.ErrSyntax)
	}
	// as many nodes as words can have
	wantFault(t, append(repeat(1023, v("x"), s("="), s("!"), n("true")), v("x"), s("="), n("true")), 0, api.ErrLong)
}

// deeps is a value of so many levels, in each way in which values are below values.
func deeps(levels int) [][]api.Word {
	one := []api.Word{q("t")}
	l := [][]api.Word{join(repeat(levels-1, s("!")), one), join(one, repeat(levels-1, s("=="), q("t"))), join(one, repeat(levels-1, n("and"), q("t"))), join(one, repeat(levels-1, n("or"), q("t")))}
	l = append(l, join(repeat(levels-1, q("t"), s("!="), s("(")), one, repeat(levels-1, s(")"))))
	// brackets do not count
	l = append(l, join(repeat(levels-1, s("("), s("!"), s("(")), one, repeat(2*levels-2, s(")"))))
	return l
}

// places is manifests in which a value stands at each place where one may, with the levels that are above it.
func places(value []api.Word) map[int][][]api.Word {
	between := func(ahead, behind string) []api.Word {
		return join(must(ahead), value, must(behind))
	}
	return map[int][][]api.Word{
		2: {between("$x =", ""), between("include a $x =", "include b"), between("if", "{ }"), between("if", "{ $y = !!1 } else { include a }"), between("f {", ": }"), between("f {", ": a => 1, b => !1 }")},
		3: {between("class a($p, $q =", ", $r = !1) { }"), between("define a($p =", ") { }"), between("f { 't': a => !1, b =>", ", c => !1 }"), between("A[", "] -> B[1]"), between("A[1] -> B[", "] ~> C[!1]"), between("A[1] -> B[2] ~> C[", "]")},
		4: {between("if 1 { $x =", "}"), between("if !!1 { } else { $x = 1 $y =", "}"), between("class a { if", "{ } }")},
		5: {between("class a { A[", "] -> B[1] }"), between("define a($p) { f { 't': a =>", "} }")},
	}
}

// P12.1: a depth of 32, and of 33, wherever the deepest is.
func TestNest(t *testing.T) {
	for above := range places(nil) {
		for _, value := range deeps(32 - above) {
			for _, l := range places(value)[above] {
				wantOnce(t, l)
				if a, at, e := syntax.Parse(l); e != api.OK || at != 0 || len(a.N) < 32 {
					t.Errorf("Parse(%q): %d nodes, %d, %d", texts(l), len(a.N), at, e)
				}
				wantFault(t, append(slices.Clip(l), s("=")), len(l), api.ErrSyntax)
			}
		}
		for _, value := range append(deeps(33-above), deeps(200)...) {
			for _, l := range places(value)[above] {
				wantFault(t, l, 0, api.ErrLong)
				wantFault(t, append(slices.Clip(l), s("=")), len(l), api.ErrSyntax)
			}
		}
	}
}

// P12.1: blocks in blocks to a depth of 32, and of 33 and more.
func TestBlocks(t *testing.T) {
	nest := func(ahead, inside string, levels int) []api.Word {
		return join(slices.Repeat(must(ahead), levels), must(inside), repeat(levels, s("}")))
	}
	for _, ahead := range []string{"class a {", "define a($p) { include b", "if true {", "if 1 { } else {"} {
		// A statement and its block are two levels, and the manifest is one.
		full := nest(ahead, "include a", 15)
		if _, at, e := syntax.Parse(full); e != api.OK || at != 0 {
			t.Errorf("Parse(%q): %d, %d", texts(full), at, e)
		}
		wantOnce(t, full)
		wantFault(t, full[:len(full)-1], len(full)-1, api.ErrSyntax)
		for _, deeper := range [][]api.Word{nest(ahead, "$x = 1", 15), nest(ahead, "", 16), nest(ahead, "", 200)} {
			wantFault(t, deeper, 0, api.ErrLong)
			wantFault(t, deeper[:len(deeper)-1], len(deeper)-1, api.ErrSyntax)
		}
	}
}
