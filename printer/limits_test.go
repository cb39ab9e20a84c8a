package printer_test

import (
	"slices"
	"strings"
	"testing"

	"majordomo/api"
	"majordomo/lexer"
	"majordomo/printer"
	"majordomo/syntax"
)

// times is so many parts alike.
func times(n int, p part) []part { return slices.Repeat([]part{p}, n) }

// balanced is operators of so many levels, and values below them.
func balanced(levels int) part {
	if levels == 0 {
		return value()
	}
	return above(api.TreeOp, "and", balanced(levels-1), balanced(levels-1))
}

// sized is arenas of so many nodes: many statements, and many nodes of each kind in one.
func sized(nodes int) []api.Arena {
	var chain []part
	for range 250 {
		chain = append(chain, ref(), arrow())
	}
	l := []api.Arena{manifest(times(nodes-1, include())...)}
	for _, p := range []part{
		above(api.TreeResource, "f", append([]part{value()}, times(400, least(api.TreeAttr))...)...),
		above(api.TreeClass, "c", append(times(900, least(api.TreeParam)), block())...),
		above(api.TreeDefine, "d", append(times(400, above(api.TreeParam, "p", value())), block())...),
		above(api.TreeChain, "", append(chain, ref())...),
		above(api.TreeSet, "x", balanced(8)),
		above(api.TreeIf, "", value(), block(times(450, include())...), block(times(450, include())...)),
	} {
		l = append(l, manifest(append([]part{p}, times(nodes-1-len(p), include())...)...))
	}
	return l
}

// P13.1: 1024 nodes, and 1025.
func TestNodes(t *testing.T) {
	for _, a := range sized(1024) {
		if len(a.N) != 1024 {
			t.Fatalf("%d nodes", len(a.N))
		}
		wantPrint(t, a, modelPrint(a))
	}
	for _, a := range append(sized(1025), sized(3000)...) {
		wantRefused(t, a)
	}
	wantRefused(t, arena(slices.Repeat([]api.Tree{x(api.TreeBlock, "")}, 1<<20)...))
}

// P13.1, P13.4: no arena of 1024 nodes needs more words than a manifest may have: at most five for two nodes.
func TestWords(t *testing.T) {
	for _, a := range append(sized(1024),
		manifest(times(511, least(api.TreeResource))...),
		manifest(times(341, above(api.TreeClass, "c", least(api.TreeParam), block()))...),
		manifest(times(255, above(api.TreeDefine, "d", above(api.TreeParam, "p", value()), block()))...),
		manifest(times(255, above(api.TreeResource, "f", value(), least(api.TreeAttr)))...),
		manifest(times(255, above(api.TreeIf, "", value(), block(), block()))...),
		manifest(times(3, above(api.TreeSet, "x", balanced(7)))...),
	) {
		s, e := printer.Print(a)
		if e != api.OK || s != modelPrint(a) {
			t.Errorf("Print(%s): %.300q, %d", short(a), s, e)
		}
		if l, _, e := lexer.Lex(s); e != api.OK || len(l) > len(a.N)*5/2 {
			t.Errorf("%d nodes, %d words, %d", len(a.N), len(l), e)
		} else if b, _, e := syntax.Parse(l); e != api.OK || !same(a, b) {
			t.Errorf("%.300q is read as %s, %d", s, short(b), e)
		}
	}
}

// deep is values of a depth of so many, in each way in which values are below values.
func deep(depth int) []part {
	nots, left, right, both := value(), value(), value(), value()
	for k := range depth - 1 {
		nots = above(api.TreeNot, "", nots)
		left = above(api.TreeOp, "or", left, value())
		right = above(api.TreeOp, "==", value(), right)
		if k%2 == 0 {
			both = above(api.TreeOp, "!=", both, value())
		} else {
			both = above(api.TreeNot, "", both)
		}
	}
	return []part{nots, left, right, both}
}

// blocks is statements with so many blocks in blocks, and so of a depth of two for each, and of those in the innermost one.
func blocks(levels int, inside ...part) []part {
	first, other, class, define := inside, inside, inside, inside
	for range levels {
		first = []part{above(api.TreeIf, "", value(), block(first...), block())}
		other = []part{above(api.TreeIf, "", value(), block(), block(slices.Concat([]part{include()}, other, []part{include()})...))}
		class = []part{above(api.TreeClass, "c", least(api.TreeParam), block(class...))}
		define = []part{above(api.TreeDefine, "d", block(define...))}
	}
	return slices.Concat(first, other, class, define)
}

// bearers is statements with a value at each place where one may be, and how many levels of theirs are above it.
func bearers(v part) map[int][]part {
	return map[int][]part{
		1: {above(api.TreeSet, "x", v), above(api.TreeIf, "", v, block()), above(api.TreeResource, "f", v), above(api.TreeResource, "f", v, least(api.TreeAttr))},
		2: {
			above(api.TreeResource, "f", value(), least(api.TreeAttr), above(api.TreeAttr, "a", v), least(api.TreeAttr)),
			above(api.TreeClass, "c", above(api.TreeParam, "p", v), least(api.TreeParam), block()),
			above(api.TreeDefine, "d", least(api.TreeParam), above(api.TreeParam, "p", v), block()),
			above(api.TreeChain, "", above(api.TreeRef, "A", v), arrow(), ref()),
			above(api.TreeChain, "", ref(), arrow(), ref(), arrow(), above(api.TreeRef, "A", v)),
		},
		3: {above(api.TreeIf, "", value(), block(above(api.TreeSet, "x", v))), above(api.TreeIf, "", value(), block(), block(include(), above(api.TreeSet, "x", v), include()))},
	}
}

// P13.1: a depth of 32, and of 33, wherever the deepest is.
func TestDepth(t *testing.T) {
	for levels := range bearers(nil) {
		for _, v := range deep(31 - levels) {
			for _, p := range bearers(v)[levels] {
				wantPrint(t, manifest(p), modelPrint(manifest(p)))
				wantTaken(t, manifest(include(), p, include()))
			}
		}
		for _, v := range append(deep(32-levels), deep(200)...) {
			for _, p := range bearers(v)[levels] {
				wantRefused(t, manifest(p))
				wantRefused(t, manifest(include(), p, include()))
			}
		}
	}
	for _, p := range append(blocks(15, include()), append(blocks(14, above(api.TreeSet, "x", above(api.TreeNot, "", value()))), blocks(15)...)...) {
		wantPrint(t, manifest(p), modelPrint(manifest(p)))
	}
	for _, p := range append(blocks(15, above(api.TreeSet, "x", value())), append(blocks(16), blocks(100, include())...)...) {
		wantRefused(t, manifest(p))
		wantRefused(t, manifest(include(), p, include()))
	}
}

// filled is a manifest whose text has so many bytes, of which most are the Text of a node of this kind.
func filled(kind, size int) api.Arena {
	p := least(kind)
	p[len(p)-1].Text = ""
	more := size - len(modelPrint(placed(p)))
	p[len(p)-1].Text = strings.Repeat("a", more)
	return placed(p)
}

// P13.2: 65536 bytes of one long word, and 65537.
func TestLongWord(t *testing.T) {
	for _, kind := range []int{api.TreeText, api.TreeMixed, api.TreeVar, api.TreeParam, api.TreeInclude, api.TreeSet, api.TreeClass, api.TreeDefine, api.TreeResource, api.TreeAttr} {
		a := filled(kind, 65536)
		if s := modelPrint(a); len(s) != 65536 {
			t.Fatalf("kind %d: %d bytes", kind, len(s))
		}
		wantPrint(t, a, modelPrint(a))
		wantLong(t, filled(kind, 65537))
	}
	wantLong(t, manifest(above(api.TreeInclude, strings.Repeat("a", 65536))))
	wantLong(t, manifest(times(40, above(api.TreeInclude, strings.Repeat("a", 65536)))...))
	// An arena that is none is refused as such, however long its text would be.
	wantRefused(t, manifest(above(api.TreeInclude, strings.Repeat("a", 65536)), above(api.TreeInclude, "if")))
}

// P13.2: 65535 to 65537 bytes of many statements, of strings with line feeds in blocks, and of the spaces ahead of lines.
func TestLongText(t *testing.T) {
	feeds := above(api.TreeSet, "x", above(api.TreeText, strings.Repeat("\n", 1500)))
	names := above(api.TreeInclude, strings.Repeat("n", 100))
	for _, p := range append(blocks(13, times(60, names)...), feeds, above(api.TreeClass, "c", block(feeds, feeds))) {
		var l []part
		for len(modelPrint(manifest(append(l, p)...))) < 65500 {
			l = append(l, p)
		}
		have := len(modelPrint(manifest(l...)))
		for size := 65535; size <= 65537; size++ {
			a := manifest(append(slices.Clip(l), above(api.TreeInclude, strings.Repeat("a", size-have-len("include \n"))))...)
			if size <= 65536 {
				wantPrint(t, a, modelPrint(a))
			} else {
				wantLong(t, a)
			}
		}
	}
}
