package value_test

import (
	"fmt"
	"slices"
	"testing"

	"majordomo/api"
	"majordomo/lexer"
	"majordomo/syntax"
	"majordomo/value"
)

// txt, num and yes are values, in short.
func txt(s string) api.Value { return api.Value{Kind: api.ValText, Text: s} }

func num(n int) api.Value { return api.Value{Kind: api.ValNumber, N: n} }

func yes(b bool) api.Value { return api.Value{Kind: api.ValBool, Yes: b} }

func bind(name string, v api.Value) api.Bind { return api.Bind{Name: name, V: v} }

// vars is a list with a variable of each kind.
func vars() []api.Bind {
	return []api.Bind{bind("s", txt("abc")), bind("n", num(12)), bind("t", yes(true)), bind("f", yes(false)), bind("e", txt("")), bind("m", num(-3))}
}

func x(kind int, text string, below ...int) api.Tree {
	return api.Tree{Kind: kind, Text: text, L: below}
}

func arena(nodes ...api.Tree) api.Arena { return api.Arena{N: nodes} }

// clone is an arena that shares nothing with a, but for its texts.
func clone(a api.Arena) api.Arena {
	b := api.Arena{N: slices.Clone(a.N)}
	for i := range b.N {
		b.N[i].L = slices.Clone(b.N[i].L)
	}
	return b
}

func same(a, b api.Arena) bool {
	return slices.EqualFunc(a.N, b.N, func(x, y api.Tree) bool {
		return x.Kind == y.Kind && x.Text == y.Text && slices.Equal(x.L, y.L)
	})
}

// short is the beginning of an arena for a test's log.
func short(a api.Arena) string {
	s := fmt.Sprintf("%d nodes:", len(a.N))
	for _, n := range a.N[:min(len(a.N), 20)] {
		s += fmt.Sprintf(" {%d %.40q %v}", n.Kind, n.Text, n.L[:min(len(n.L), 20)])
	}
	return s
}

// parse is the arena of a text that a test is written with.
func parse(t *testing.T, text string) api.Arena {
	t.Helper()
	l, at, e := lexer.Lex(text)
	if e != api.OK {
		t.Fatalf("Lex(%.200q): %d at %d", text, e, at)
	}
	a, at, e := syntax.Parse(l)
	if e != api.OK {
		t.Fatalf("Parse(%.200q): %d at %d", text, e, at)
	}
	return a
}

// part is a tree's nodes in the order in which they end: the last one is above the others.
type part []api.Tree

// above is a node above these parts.
func above(kind int, text string, below ...part) part {
	var p part
	var l []int
	for _, b := range below {
		from := len(p)
		for _, n := range b {
			n.L = slices.Clone(n.L)
			for k := range n.L {
				n.L[k] += from
			}
			p = append(p, n)
		}
		l = append(l, len(p)-1)
	}
	return append(p, api.Tree{Kind: kind, Text: text, L: l})
}

// set is the arena of a manifest that sets a variable to an expression, whose topmost node is third from the end.
func set(p part) (a api.Arena, i int) {
	a.N = above(api.TreeBlock, "", above(api.TreeSet, "z", p))
	return a, len(a.N) - 3
}

// wantEval asks for what a node comes to, and that nothing is changed.
func wantEval(t *testing.T, a api.Arena, i int, env []api.Bind, want api.Value, steps int, e api.Errno) {
	t.Helper()
	nodes, binds := clone(a), slices.Clone(env)
	v, n, got := value.Eval(a, i, env)
	if v != want || n != steps || got != e {
		t.Errorf("Eval(%s, %d): %.80q %d %v (kind %d), %d steps, error %d; want %.80q %d %v (kind %d), %d steps, error %d", short(a), i, v.Text, v.N, v.Yes, v.Kind, n, got, want.Text, want.N, want.Yes, want.Kind, steps, e)
	}
	if !same(a, nodes) || !slices.Equal(env, binds) {
		t.Errorf("Eval(%s, %d): an argument was changed", short(a), i)
	}
}

// wantValue asks for what an expression's text comes to; wantFault for its error.
func wantValue(t *testing.T, text string, env []api.Bind, want api.Value, steps int) {
	t.Helper()
	a := parse(t, "$z = "+text)
	wantEval(t, a, len(a.N)-3, env, want, steps, api.OK)
}

func wantFault(t *testing.T, text string, env []api.Bind, e api.Errno) {
	t.Helper()
	a := parse(t, "$z = "+text)
	wantEval(t, a, len(a.N)-3, env, api.Value{}, 0, e)
}

func wantMixed(t *testing.T, s string, env []api.Bind, want string, e api.Errno) {
	t.Helper()
	binds := slices.Clone(env)
	if got, f := value.Mixed(s, env); got != want || f != e {
		t.Errorf("Mixed(%.200q): %.200q (%d bytes), error %d; want %.200q (%d bytes), error %d", s, got, len(got), f, want, len(want), e)
	}
	if !slices.Equal(env, binds) {
		t.Errorf("Mixed(%.200q): the list was changed", s)
	}
}

// dice is a fixed run of numbers, so that each test run asks the same.
type dice uint64

func (d *dice) below(n int) int {
	*d = *d*6364136223846793005 + 1442695040888963407
	return int(uint64(*d) >> 33 % uint64(n))
}

func (d *dice) of(l ...string) string { return l[d.below(len(l))] }
