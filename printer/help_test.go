package printer_test

import (
	"fmt"
	"slices"
	"strings"
	"testing"

	"majordomo/api"
	"majordomo/lexer"
	"majordomo/printer"
	"majordomo/syntax"
)

// x is a node, in short.
func x(kind int, text string, below ...int) api.Tree {
	return api.Tree{Kind: kind, Text: text, L: below}
}

func arena(nodes ...api.Tree) api.Arena { return api.Arena{N: nodes} }

func same(a, b api.Arena) bool {
	return slices.EqualFunc(a.N, b.N, func(x, y api.Tree) bool {
		return x.Kind == y.Kind && x.Text == y.Text && slices.Equal(x.L, y.L)
	})
}

// clone is an arena that shares nothing with a, but for its texts.
func clone(a api.Arena) api.Arena {
	b := api.Arena{N: slices.Clone(a.N)}
	for i := range b.N {
		b.N[i].L = slices.Clone(b.N[i].L)
	}
	return b
}

// short is the beginning of an arena for a test's log.
func short(a api.Arena) string {
	s := fmt.Sprintf("%d nodes:", len(a.N))
	for _, n := range a.N[:min(len(a.N), 20)] {
		s += fmt.Sprintf(" {%d %.40q %v}", n.Kind, n.Text, n.L[:min(len(n.L), 20)])
	}
	return s
}

// parse is the arena of a text that a test is written with.
func parse(t *testing.T, text string) api.Arena {
	t.Helper()
	l, at, e := lexer.Lex(text)
	if e != api.OK {
		t.Fatalf("Lex(%.200q): %d at %d", text, e, at)
	}
	a, at, e := syntax.Parse(l)
	if e != api.OK {
		t.Fatalf("Parse(%.200q): %d at %d", text, e, at)
	}
	return a
}

// lists is the arena with each empty list of children nil, and with each one not nil but with room behind it.
func lists(a api.Arena) []api.Arena {
	none, some := clone(a), clone(a)
	for i, n := range a.N {
		if len(n.L) == 0 {
			none.N[i].L = nil
			some.N[i].L = make([]int, 0, 3)
		}
	}
	return []api.Arena{none, some}
}

// wantTaken asks that an arena is taken, by each call, and stays as it is.
func wantTaken(t *testing.T, a api.Arena) {
	t.Helper()
	for _, b := range lists(a) {
		before := clone(b)
		if e := printer.Check(b); e != api.OK {
			t.Errorf("Check(%s): %d", short(b), e)
			return
		}
		s, e := printer.Print(b)
		if e != api.OK && (e != api.ErrLong || s != "") {
			t.Errorf("Print(%s): %.80q, %d", short(b), s, e)
		}
		if s := printer.Value(b, len(b.N)-1); !strings.HasPrefix(s, "{\n") || !strings.HasSuffix(s, "}") {
			t.Errorf("Value(%s) of the last node: %.80q", short(b), s)
		}
		if !same(b, before) {
			t.Errorf("%s was changed", short(b))
		}
	}
}

// wantRefused asks that an arena is refused, by each call.
func wantRefused(t *testing.T, a api.Arena) {
	t.Helper()
	for _, b := range lists(a) {
		before := clone(b)
		if e := printer.Check(b); e != api.ErrSyntax {
			t.Errorf("Check(%s): %d", short(b), e)
			return
		}
		if s, e := printer.Print(b); e != api.ErrSyntax || s != "" {
			t.Errorf("Print(%s): %.80q, %d", short(b), s, e)
		}
		for i := -1; i <= min(len(b.N), 40); i++ {
			if s := printer.Value(b, i); s != "" {
				t.Errorf("Value(%s, %d): %.80q", short(b), i, s)
			}
		}
		if !same(b, before) {
			t.Errorf("%s was changed", short(b))
		}
	}
}

// wantCheck asks for either.
func wantCheck(t *testing.T, a api.Arena, taken bool) {
	t.Helper()
	if taken {
		wantTaken(t, a)
	} else {
		wantRefused(t, a)
	}
}

// wantPrint asks for a text, and that it is read as the same arena.
func wantPrint(t *testing.T, a api.Arena, want string) {
	t.Helper()
	wantTaken(t, a)
	for _, b := range lists(a) {
		if s, e := printer.Print(b); e != api.OK || s != want {
			t.Errorf("Print(%s): %.400q, %d; want %.400q", short(b), s, e, want)
		}
	}
	if b := parse(t, want); !same(a, b) {
		t.Errorf("%.400q is read as %s; want %s", want, short(b), short(a))
	}
}

// wantLong asks that an arena is one, but too long to print.
func wantLong(t *testing.T, a api.Arena) {
	t.Helper()
	wantTaken(t, a)
	if s, e := printer.Print(a); e != api.ErrLong || s != "" {
		t.Errorf("Print(%s): %.80q, %d; want ErrLong", short(a), s, e)
	}
}

func wantValue(t *testing.T, a api.Arena, i int, want string) {
	t.Helper()
	if s := printer.Value(a, i); s != want {
		t.Errorf("Value(%s, %d): %.400q; want %.400q", short(a), i, s, want)
	}
}

// part is a tree's nodes in the order in which they end: the last one is above the others.
type part []api.Tree

// above is a node above these parts.
func above(kind int, text string, below ...part) part {
	var p part
	var l []int
	for _, b := range below {
		from := len(p)
		for _, n := range b {
			n.L = slices.Clone(n.L)
			for k := range n.L {
				n.L[k] += from
			}
			p = append(p, n)
		}
		l = append(l, len(p)-1)
	}
	return append(p, api.Tree{Kind: kind, Text: text, L: l})
}

// dice is a fixed run of numbers, so that each test run asks the same.
type dice uint64

func (d *dice) below(n int) int {
	*d = *d*6364136223846793005 + 1442695040888963407
	return int(uint64(*d) >> 33 % uint64(n))
}

func (d *dice) of(l ...string) string { return l[d.below(len(l))] }
