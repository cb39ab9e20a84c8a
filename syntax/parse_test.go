package syntax_test

import (
	"slices"
	"testing"

	"majordomo/api"
	"majordomo/syntax"
)

// x is a node of an arena.
func x(kind int, text string, below ...int) api.Tree {
	return api.Tree{Kind: kind, Text: text, L: below}
}

// wantNodes asks for the nodes of a manifest's text.
func wantNodes(t *testing.T, text string, nodes ...api.Tree) {
	t.Helper()
	wantArena(t, cut(t, text), api.Arena{N: nodes})
}

// P12.1: no words at all are a manifest without statements.
func TestNoWords(t *testing.T) {
	wantArena(t, nil, api.Arena{N: []api.Tree{x(api.TreeBlock, "")}})
	wantArena(t, []api.Word{}, api.Arena{N: []api.Tree{x(api.TreeBlock, "")}})
}

// P12.1: the document's examples.
func TestExamples(t *testing.T) {
	wantNodes(t, "include a", x(api.TreeInclude, "a"), x(api.TreeBlock, "", 0))
	wantNodes(t, "$x = 1 == 2 or !true",
		x(api.TreeNumber, "1"), x(api.TreeNumber, "2"), x(api.TreeOp, "==", 0, 1), x(api.TreeTrue, ""), x(api.TreeNot, "", 3), x(api.TreeOp, "or", 2, 4), x(api.TreeSet, "x", 5), x(api.TreeBlock, "", 6))
	for text, at := range map[string]int{"file { 'a' }": 3, "class { }": 1, "A['x']": 4, "include": 1} {
		wantFault(t, cut(t, text), at, api.ErrSyntax)
	}
}

// P12.1: classes and defines, without params, with an empty pair of brackets, with one and several.
func TestDeclarations(t *testing.T) {
	for word, kind := range map[string]int{"class": api.TreeClass, "define": api.TreeDefine} {
		wantNodes(t, word+" a { }", x(api.TreeBlock, ""), x(kind, "a", 0), x(api.TreeBlock, "", 1))
		wantNodes(t, word+" a::b() { }", x(api.TreeBlock, ""), x(kind, "a::b", 0), x(api.TreeBlock, "", 1))
		wantNodes(t, word+" a($p) { }", x(api.TreeParam, "p"), x(api.TreeBlock, ""), x(kind, "a", 0, 1), x(api.TreeBlock, "", 2))
		wantNodes(t, word+" a($p = 'v', $q, $p = !$q) { include c include d }",
			x(api.TreeText, "v"), x(api.TreeParam, "p", 0), x(api.TreeParam, "q"), x(api.TreeVar, "q"), x(api.TreeNot, "", 3), x(api.TreeParam, "p", 4),
			x(api.TreeInclude, "c"), x(api.TreeInclude, "d"), x(api.TreeBlock, "", 6, 7), x(kind, "a", 1, 2, 5, 8), x(api.TreeBlock, "", 9))
		for text, at := range map[string]int{
			" {": 1, "": 1, " a": 2, " a }": 2, " a { ": 3, " a( { }": 3, " a($p $q) { }": 4, " a($p, ) { }": 5, " a(, $p) { }": 3, " a($p = ) { }": 5, " a($p = 1 { }": 6, " a() }": 4, " a()": 4, " a(p) { }": 3, " $a { }": 1, " A { }": 1, " 'a' { }": 1, " a { } }": 4, " a [ ]": 2, " a() () { }": 4,
		} {
			wantFault(t, cut(t, word+text), at, api.ErrSyntax)
		}
	}
}

// P12.1: includes and sets.
func TestShortStatements(t *testing.T) {
	wantNodes(t, "include a::b include c", x(api.TreeInclude, "a::b"), x(api.TreeInclude, "c"), x(api.TreeBlock, "", 0, 1))
	wantNodes(t, "$x = 'a' $y = $x", x(api.TreeText, "a"), x(api.TreeSet, "x", 0), x(api.TreeVar, "x"), x(api.TreeSet, "y", 2), x(api.TreeBlock, "", 1, 3))
	for text, at := range map[string]int{
		"include A": 1, "include $a": 1, "include 'a'": 1, "include if": 1, "include a, b": 2, "$x": 1, "$x =": 2, "$x == 1": 1, "$x = a": 2, "$x = A": 2, "$x = =": 2, "$x = if": 2, "$x = 1 2": 3, "x = 1": 1, "'x' = 1": 0, "1": 0, "else { }": 0, "true": 0, "and": 0, "}": 0, "!": 0, "(": 0,
	} {
		wantFault(t, cut(t, text), at, api.ErrSyntax)
	}
}

// P12.1: an if with an else and without one.
func TestIf(t *testing.T) {
	wantNodes(t, "if true { }", x(api.TreeTrue, ""), x(api.TreeBlock, ""), x(api.TreeIf, "", 0, 1), x(api.TreeBlock, "", 2))
	wantNodes(t, "if false { include a } else { }",
		x(api.TreeFalse, ""), x(api.TreeInclude, "a"), x(api.TreeBlock, "", 1), x(api.TreeBlock, ""), x(api.TreeIf, "", 0, 2, 3), x(api.TreeBlock, "", 4))
	wantNodes(t, "if $x { if $y { } else { } }",
		x(api.TreeVar, "x"), x(api.TreeVar, "y"), x(api.TreeBlock, ""), x(api.TreeBlock, ""), x(api.TreeIf, "", 1, 2, 3), x(api.TreeBlock, "", 4), x(api.TreeIf, "", 0, 5), x(api.TreeBlock, "", 6))
	for text, at := range map[string]int{
		"if": 1, "if true": 2, "if true { ": 3, "if { }": 1, "if true { } else": 5, "if true { } else if false { }": 5, "if true { } else { } else { }": 7, "if true include a": 2, "if a { }": 1, "if true { } else { ": 6,
	} {
		wantFault(t, cut(t, text), at, api.ErrSyntax)
	}
}

// P12.1: resources without attrs, with one and several, whose names may be keywords, and have no ':'.
func TestResources(t *testing.T) {
	wantNodes(t, "file { '/a': }", x(api.TreeText, "/a"), x(api.TreeResource, "file", 0), x(api.TreeBlock, "", 1))
	wantNodes(t, "a::b { 1: mode => 2 }", x(api.TreeNumber, "1"), x(api.TreeNumber, "2"), x(api.TreeAttr, "mode", 1), x(api.TreeResource, "a::b", 0, 2), x(api.TreeBlock, "", 3))
	wantNodes(t, "f { \"${x}\" == $y: a => true, b => !false, a => 'c' }",
		x(api.TreeMixed, "${x}"), x(api.TreeVar, "y"), x(api.TreeOp, "==", 0, 1), x(api.TreeTrue, ""), x(api.TreeAttr, "a", 3), x(api.TreeFalse, ""), x(api.TreeNot, "", 5), x(api.TreeAttr, "b", 6), x(api.TreeText, "c"), x(api.TreeAttr, "a", 8),
		x(api.TreeResource, "f", 2, 4, 7, 9), x(api.TreeBlock, "", 10))
	for _, w := range keywords() {
		wantNodes(t, "f { 1: "+w.Text+" => 2 }", x(api.TreeNumber, "1"), x(api.TreeNumber, "2"), x(api.TreeAttr, w.Text, 1), x(api.TreeResource, "f", 0, 2), x(api.TreeBlock, "", 3))
	}
	for text, at := range map[string]int{
		"f": 1, "f 'a'": 1, "f {": 2, "f { }": 2, "f { 'a'": 3, "f { 'a' }": 3, "f { 'a', }": 3, "f { 'a':": 4, "f { 'a': , }": 4, "f { 'a': b }": 5, "f { 'a': b = 1 }": 5, "f { 'a': b => }": 6, "f { 'a': b => 1": 7, "f { 'a': b => 1, }": 8, "f { 'a': b => 1 c => 2 }": 7, "f { 'a': b::c => 1 }": 4, "f { 'a': b => 1, c::d => 2 }": 8, "f { 'a': B => 1 }": 4, "f { 'a': $b => 1 }": 4, "f { 'a': 'b' => 1 }": 4, "f { 'a': b => 1 : }": 7, "f { 'a' 'b': }": 3,
	} {
		wantFault(t, cut(t, text), at, api.ErrSyntax)
	}
}

// P12.1: chains of two refs and of several.
func TestChains(t *testing.T) {
	wantNodes(t, "A['x'] -> B[1]", x(api.TreeText, "x"), x(api.TreeRef, "A", 0), x(api.TreeArrow, "->"), x(api.TreeNumber, "1"), x(api.TreeRef, "B", 3), x(api.TreeChain, "", 1, 2, 4), x(api.TreeBlock, "", 5))
	wantNodes(t, "A[$x or $y] ~> B[1] -> C[2] ~> A[3] include a",
		x(api.TreeVar, "x"), x(api.TreeVar, "y"), x(api.TreeOp, "or", 0, 1), x(api.TreeRef, "A", 2), x(api.TreeArrow, "~>"), x(api.TreeNumber, "1"), x(api.TreeRef, "B", 5), x(api.TreeArrow, "->"),
		x(api.TreeNumber, "2"), x(api.TreeRef, "C", 8), x(api.TreeArrow, "~>"), x(api.TreeNumber, "3"), x(api.TreeRef, "A", 11), x(api.TreeChain, "", 3, 4, 6, 7, 9, 10, 12), x(api.TreeInclude, "a"), x(api.TreeBlock, "", 13, 14))
	wantNodes(t, "A[1] -> B[2] C[3] -> D[4]",
		x(api.TreeNumber, "1"), x(api.TreeRef, "A", 0), x(api.TreeArrow, "->"), x(api.TreeNumber, "2"), x(api.TreeRef, "B", 3), x(api.TreeChain, "", 1, 2, 4),
		x(api.TreeNumber, "3"), x(api.TreeRef, "C", 6), x(api.TreeArrow, "->"), x(api.TreeNumber, "4"), x(api.TreeRef, "D", 9), x(api.TreeChain, "", 7, 8, 10), x(api.TreeBlock, "", 5, 11))
	for text, at := range map[string]int{
		"A": 1, "A[": 2, "A[]": 2, "A['x'": 3, "A['x']": 4, "A['x'] B['y']": 4, "A['x'] ->": 5, "A['x'] -> b['y']": 5, "A['x'] -> B": 6, "A['x'] => B['y']": 4, "A['x'] -> -> B['y']": 5, "A['x'] -> B['y'] ->": 10, "A['x'] -> B['y'] -> include a": 10, "A['x', 'y']": 3, "A { 'x': }": 1, "-> A['x']": 0, "a['x'] -> B['y']": 1, "A('x') -> B['y']": 1,
	} {
		wantFault(t, cut(t, text), at, api.ErrSyntax)
	}
}

// wantValue asks for the nodes of a value, which come ahead of those of the set and the manifest.
func wantValue(t *testing.T, text string, nodes ...api.Tree) {
	t.Helper()
	n := len(nodes)
	wantNodes(t, "$v = "+text, append(nodes, x(api.TreeSet, "v", n-1), x(api.TreeBlock, "", n))...)
}

// P12.1: each plain, and values in brackets.
func TestPlain(t *testing.T) {
	wantValue(t, "'a # \" b'", x(api.TreeText, `a # " b`))
	wantValue(t, "''", x(api.TreeText, ""))
	wantValue(t, "\"a ${b}\n\"", x(api.TreeMixed, "a ${b}\n"))
	wantValue(t, "007", x(api.TreeNumber, "007"))
	wantValue(t, "$x_1", x(api.TreeVar, "x_1"))
	wantValue(t, "true", x(api.TreeTrue, ""))
	wantValue(t, "false", x(api.TreeFalse, ""))
	wantValue(t, "!1", x(api.TreeNumber, "1"), x(api.TreeNot, "", 0))
	wantValue(t, "!!true", x(api.TreeTrue, ""), x(api.TreeNot, "", 0), x(api.TreeNot, "", 1))
	wantValue(t, "(1)", x(api.TreeNumber, "1"))
	wantValue(t, "((((1))))", x(api.TreeNumber, "1"))
	wantValue(t, "!(!(1))", x(api.TreeNumber, "1"), x(api.TreeNot, "", 0), x(api.TreeNot, "", 1))
	for text, at := range map[string]int{"(": 3, "()": 3, "(1": 4, "(1}": 4, "1)": 3, "((1)": 6, "!": 3, "! = 1": 3, "not 1": 2, "[1]": 2, "or": 2, "class": 2, "else": 2} {
		wantFault(t, cut(t, "$v = "+text), at, api.ErrSyntax)
	}
}

// P12.1: each operator alone, and several of one kind, the later ones on top.
func TestOperators(t *testing.T) {
	one, two, three, four := x(api.TreeNumber, "1"), x(api.TreeNumber, "2"), x(api.TreeNumber, "3"), x(api.TreeNumber, "4")
	for _, o := range []string{"==", "!=", "and", "or"} {
		wantValue(t, "1 "+o+" 2", one, two, x(api.TreeOp, o, 0, 1))
		wantValue(t, "1 "+o+" 2 "+o+" 3", one, two, x(api.TreeOp, o, 0, 1), three, x(api.TreeOp, o, 2, 3))
		wantValue(t, "1 "+o+" 2 "+o+" 3 "+o+" 4", one, two, x(api.TreeOp, o, 0, 1), three, x(api.TreeOp, o, 2, 3), four, x(api.TreeOp, o, 4, 5))
		wantValue(t, "1 "+o+" (2 "+o+" 3)", one, two, three, x(api.TreeOp, o, 1, 2), x(api.TreeOp, o, 0, 3))
		wantValue(t, "!1 "+o+" !2", one, x(api.TreeNot, "", 0), two, x(api.TreeNot, "", 2), x(api.TreeOp, o, 1, 3))
		wantValue(t, "!(1 "+o+" 2)", one, two, x(api.TreeOp, o, 0, 1), x(api.TreeNot, "", 2))
		for text, at := range map[string]int{"1 " + o: 4, o + " 1": 2, "1 " + o + " " + o + " 2": 4, "1 " + o + " )": 4, "(1 " + o + ")": 5, "1 " + o + " include a": 4} {
			wantFault(t, cut(t, "$v = "+text), at, api.ErrSyntax)
		}
	}
	wantValue(t, "1 == 2 != 3", one, two, x(api.TreeOp, "==", 0, 1), three, x(api.TreeOp, "!=", 2, 3))
	wantValue(t, "1 != 2 == 3", one, two, x(api.TreeOp, "!=", 0, 1), three, x(api.TreeOp, "==", 2, 3))
}

// P12.1: of operators of unlike kinds == and != join first, then and, then or.
func TestUnlike(t *testing.T) {
	one, two, three, four := x(api.TreeNumber, "1"), x(api.TreeNumber, "2"), x(api.TreeNumber, "3"), x(api.TreeNumber, "4")
	rank := map[string]int{"==": 3, "!=": 3, "and": 2, "or": 1}
	for first := range rank {
		for second := range rank {
			text := "1 " + first + " 2 " + second + " 3"
			if rank[first] >= rank[second] {
				wantValue(t, text, one, two, x(api.TreeOp, first, 0, 1), three, x(api.TreeOp, second, 2, 3))
			} else {
				wantValue(t, text, one, two, three, x(api.TreeOp, second, 1, 2), x(api.TreeOp, first, 0, 3))
			}
			wantValue(t, "(1 "+first+" 2) "+second+" 3", one, two, x(api.TreeOp, first, 0, 1), three, x(api.TreeOp, second, 2, 3))
			wantValue(t, "1 "+first+" (2 "+second+" 3)", one, two, three, x(api.TreeOp, second, 1, 2), x(api.TreeOp, first, 0, 3))
		}
	}
	wantValue(t, "1 or 2 and 3 == 4", one, two, three, four, x(api.TreeOp, "==", 2, 3), x(api.TreeOp, "and", 1, 4), x(api.TreeOp, "or", 0, 5))
	wantValue(t, "1 == 2 and 3 or 4", one, two, x(api.TreeOp, "==", 0, 1), three, x(api.TreeOp, "and", 2, 3), four, x(api.TreeOp, "or", 4, 5))
	wantValue(t, "1 and 2 or 3 and 4", one, two, x(api.TreeOp, "and", 0, 1), three, four, x(api.TreeOp, "and", 3, 4), x(api.TreeOp, "or", 2, 5))
	wantValue(t, "!1 == 2", one, x(api.TreeNot, "", 0), two, x(api.TreeOp, "==", 1, 2))
}

// P12.1: where a NAME is asked for no keyword stands.
func TestKeywords(t *testing.T) {
	for _, w := range keywords() {
		for _, l := range [][]api.Word{{n("class")}, {n("define")}, {n("include")}} {
			wantFault(t, join(l, []api.Word{w, s("{"), s("}")}), 1, api.ErrSyntax)
		}
		// The name of a resource stands first, where some keywords begin other statements.
		at := 1
		if slices.Contains([]string{"else", "true", "false", "and", "or"}, w.Text) {
			at = 0
		}
		wantFault(t, []api.Word{w, s("{"), q("t"), s(":"), s("}")}, at, api.ErrSyntax)
		wantFault(t, []api.Word{s("{"), w}, 0, api.ErrSyntax)
	}
}

// P12.1: what a word is hangs on its kind and its text alone: a keyword, or a sign, of another kind is none, and names may be as no text has them.
func TestOdd(t *testing.T) {
	for _, w := range never() {
		wantFault(t, []api.Word{w}, 0, api.ErrSyntax)
		for _, text := range manifests() {
			l := cut(t, text)
			for at := range len(l) + 1 {
				wantFault(t, join(l[:at], []api.Word{w}, l[at:]), at, api.ErrSyntax)
			}
		}
	}
	for _, text := range []string{"", "{", "If", "true ", "::", "a b", "\xff"} {
		wantArena(t, []api.Word{n("include"), n(text)}, api.Arena{N: []api.Tree{x(api.TreeInclude, text), x(api.TreeBlock, "", 0)}})
		wantArena(t, []api.Word{v(text), s("="), q(text)}, api.Arena{N: []api.Tree{x(api.TreeText, text), x(api.TreeSet, text, 0), x(api.TreeBlock, "", 1)}})
	}
	wantArena(t, []api.Word{v("if"), s("="), v("true")}, api.Arena{N: []api.Tree{x(api.TreeVar, "true"), x(api.TreeSet, "if", 0), x(api.TreeBlock, "", 1)}})
	wantFault(t, []api.Word{ty("include"), n("a")}, 1, api.ErrSyntax)
	wantFault(t, []api.Word{n("if"), ty("true"), s("{"), s("}")}, 1, api.ErrSyntax)
	wantFault(t, []api.Word{v("x"), n("="), q("t")}, 1, api.ErrSyntax)
	wantFault(t, []api.Word{v("x"), s("="), q("t"), q("or"), q("t")}, 3, api.ErrSyntax)
	wantFault(t, []api.Word{v("x"), s("="), q("t"), s("or"), q("t")}, 3, api.ErrSyntax)
	wantFault(t, []api.Word{v("x"), s("="), q("t"), n("=="), q("t")}, 4, api.ErrSyntax)
	chain := must("A[1] -> B[2]")
	wantArena(t, join(chain, []api.Word{n("->"), s("{"), q("t"), s(":"), s("}"), v("~>"), s("="), q("v")}), api.Arena{N: []api.Tree{
		x(api.TreeNumber, "1"), x(api.TreeRef, "A", 0), x(api.TreeArrow, "->"), x(api.TreeNumber, "2"), x(api.TreeRef, "B", 3), x(api.TreeChain, "", 1, 2, 4),
		x(api.TreeText, "t"), x(api.TreeResource, "->", 6), x(api.TreeText, "v"), x(api.TreeSet, "~>", 8), x(api.TreeBlock, "", 5, 7, 9)}})
	// An attr's name is any that has no ':'.
	for text, e := range map[string]api.Errno{"": api.OK, "{": api.OK, "A b": api.OK, ":": api.ErrSyntax, "a:": api.ErrSyntax, ":a": api.ErrSyntax, "a:b": api.ErrSyntax, "a::b": api.ErrSyntax} {
		l := []api.Word{n("f"), s("{"), q("t"), s(":"), n(text), s("=>"), q("v"), s("}")}
		if e == api.OK {
			wantArena(t, l, api.Arena{N: []api.Tree{x(api.TreeText, "t"), x(api.TreeText, "v"), x(api.TreeAttr, text, 1), x(api.TreeResource, "f", 0, 2), x(api.TreeBlock, "", 3)}})
		} else {
			wantFault(t, l, 4, e)
		}
	}
}

// P12.1: where words begin in their text changes nothing.
func TestAt(t *testing.T) {
	for _, text := range append(manifests(), "$x = (1", "f { 'a': b => 1, }") {
		for _, at := range []int{0, -1, 7, 1 << 60, -1 << 63} {
			l := cut(t, text)
			for i := range l {
				l[i].At = at
			}
			a, where, e := syntax.Parse(l)
			b, wanted, wantedE := syntax.Parse(cut(t, text))
			if where != wanted || e != wantedE || !same(a, b) {
				t.Errorf("Parse(%q) with At %d: %d, %d; want %d, %d", text, at, where, e, wanted, wantedE)
			}
		}
	}
}

// Rules R2, R6 and R7: words stay as they are, what is behind them too, and lists of an answer are its own.
func TestOwn(t *testing.T) {
	for _, text := range manifests() {
		whole := append(cut(t, text), v("spare"), v("spare"))
		kept := slices.Clone(whole)
		l := whole[:len(whole)-2]
		a, _, _ := syntax.Parse(l)
		b, _, _ := syntax.Parse(l)
		if !slices.Equal(whole, kept) {
			t.Errorf("Parse(%q) changed its words", text)
		}
		for i := range b.N {
			list := b.N[i].L
			list = list[:cap(list)]
			for j := range list {
				list[j] = -1
			}
			b.N[i].L = nil
			for k := i + 1; k < len(b.N); k++ {
				if slices.Contains(b.N[k].L, -1) {
					t.Errorf("Parse(%q): the lists of %d and %d share memory", text, i, k)
				}
			}
		}
		for i := range whole {
			whole[i] = api.Word{}
		}
		x, _, _, _ := model(cut(t, text))
		if !same(a, arena(x)) {
			t.Errorf("Parse(%q): the answer changed with what is not its own", text)
		}
	}
}
