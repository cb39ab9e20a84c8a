package printer_test

import (
	"slices"
	"strings"
	"testing"

	"majordomo/api"
	"majordomo/lexer"
	"majordomo/printer"
	"majordomo/syntax"
)

// wantModel asks for all that the document says of an arena; it tells whether it is taken.
func wantModel(t *testing.T, a api.Arena) bool {
	t.Helper()
	if !taken(a) {
		wantRefused(t, a)
		return false
	}
	wantPrint(t, a, modelPrint(a))
	for i := range a.N {
		wantValue(t, a, i, model(a, i).String())
	}
	return true
}

// manifests is texts that have each row of the table.
func manifests() []string {
	return []string{
		"",
		"class base { service { 'ssh': } } file { '/etc/motd': content => \"${node} ${fact_os}\" } include base File['/etc/motd'] ~> Service['ssh']",
		"define web::site($port = 123456789, $x) { a::b { \"x\ny\": if => $port, b => !$x == (1 or 2) } } Web_1['t'] -> A[1] ~> B[$x]",
		"if $x == 1 and !!$y { include a } else { class c() { $s = '\n' } } $z = false or true != true class d($p) { if 1 { } }",
	}
}

// texts is Texts of which each kind of nodes may have some.
func texts() []string {
	return []string{"", "a", "a::b", "if", "or", "A", "1", "1234567890", "->", "==", "a'b", `a"b`, "a\nb", "$a"}
}

// near is the arenas one change away: of a kind, of a Text, of a list, of the order.
func near(a api.Arena) []api.Arena {
	var out []api.Arena
	change := func(i int, by func(*api.Tree)) {
		b := clone(a)
		by(&b.N[i])
		out = append(out, b)
	}
	for i, n := range a.N {
		for kind := -1; kind < kindCount; kind++ {
			change(i, func(n *api.Tree) { n.Kind = kind })
		}
		for _, s := range append(texts(), n.Text+" ", " "+n.Text, n.Text+n.Text) {
			change(i, func(n *api.Tree) { n.Text = s })
		}
		for at := range len(n.L) + 1 {
			for k := -1; k <= len(a.N); k++ {
				change(i, func(n *api.Tree) { n.L = slices.Insert(n.L, at, k) })
				if at < len(n.L) {
					change(i, func(n *api.Tree) { n.L[at] = k })
				}
			}
			if at < len(n.L) {
				change(i, func(n *api.Tree) { n.L = slices.Delete(n.L, at, at+1) })
			}
			if at+1 < len(n.L) {
				change(i, func(n *api.Tree) { n.L[at], n.L[at+1] = n.L[at+1], n.L[at] })
			}
		}
		out = append(out, moved(a, i)...)
	}
	return out
}

// moved is an arena without a node, with it twice, and with it and another one in each other's place, the lists as they were and as the nodes now stand.
func moved(a api.Arena, i int) []api.Arena {
	without, twice := clone(a), clone(a)
	without.N = slices.Delete(without.N, i, i+1)
	twice.N = slices.Insert(twice.N, i, twice.N[i])
	out := []api.Arena{without, twice}
	for k := range i {
		b := clone(a)
		b.N[i], b.N[k] = b.N[k], b.N[i]
		c := clone(b)
		for _, n := range c.N {
			for at, j := range n.L {
				switch j {
				case i:
					n.L[at] = k
				case k:
					n.L[at] = i
				}
			}
		}
		out = append(out, b, c)
	}
	return out
}

// P13.1 to P13.4: arenas one change away from manifests'.
func TestNear(t *testing.T) {
	t.Parallel()
	taken, not := 0, 0
	for _, text := range manifests() {
		a := parse(t, text)
		wantModel(t, a)
		for _, b := range near(a) {
			if wantModel(t, b) {
				taken++
			} else {
				not++
			}
		}
	}
	if taken < 500 || not < 5000 {
		t.Errorf("%d arenas were taken, %d not", taken, not)
	}
}

// P13.1 to P13.4: small arenas: nodes of each kind, of a few Texts and with short lists, alone and ahead of one or two others.
func TestShort(t *testing.T) {
	t.Parallel()
	var some []api.Tree
	for kind := range kindCount {
		for _, s := range []string{"", "a", "A", "1", "->", "=="} {
			for _, l := range sequences(2, []int{0, 1, 2}) {
				some = append(some, x(kind, s, l...))
			}
		}
	}
	blocks := []api.Tree{x(api.TreeBlock, ""), x(api.TreeBlock, "", 0), x(api.TreeBlock, "", 1), x(api.TreeBlock, "", 0, 1), x(api.TreeSet, "a", 1)}
	for _, one := range some {
		wantModel(t, arena(one))
		for _, last := range blocks {
			wantModel(t, arena(one, last))
		}
	}
	for _, one := range some {
		if len(one.L) > 0 {
			continue
		}
		for _, other := range some {
			if a := arena(one, other, x(api.TreeBlock, "", 1)); printer.Check(a) == api.OK != taken(a) {
				t.Errorf("Check(%s): %d", short(a), printer.Check(a))
			}
		}
	}
}

// statement, block and value are parts by dice, of a depth of no more than so many.
func (d *dice) statement(depth int) part {
	if depth < 3 {
		return above(api.TreeInclude, d.of("a", "b::c", "x_1"))
	}
	switch d.below(7) {
	case 0:
		return above(api.TreeClass, d.of("a", "b::c"), d.params(depth-1)...)
	case 1:
		return above(api.TreeDefine, d.of("a", "b::c"), d.params(depth-1)...)
	case 2:
		return above(api.TreeSet, d.of("x", "if", "y_1"), d.value(depth-1))
	case 3:
		l := []part{d.value(depth - 1), d.block(depth - 1), d.block(depth - 1)}
		return above(api.TreeIf, "", l[:2+d.below(2)]...)
	case 4:
		l := []part{d.value(depth - 1)}
		for range d.below(4) {
			l = append(l, above(api.TreeAttr, d.of("mode", "if", "true"), d.value(depth-2)))
		}
		return above(api.TreeResource, d.of("file", "b::c"), l...)
	case 5:
		l := []part{above(api.TreeRef, "A", d.value(depth-2))}
		for range 1 + d.below(3) {
			l = append(l, above(api.TreeArrow, d.of("->", "~>")), above(api.TreeRef, d.of("File", "Web_1"), d.value(depth-2)))
		}
		return above(api.TreeChain, "", l...)
	}
	return above(api.TreeInclude, d.of("a", "b::c", "x_1"))
}

func (d *dice) params(depth int) []part {
	var l []part
	for range d.below(4) {
		if d.below(2) == 0 {
			l = append(l, above(api.TreeParam, d.of("p", "class")))
		} else {
			l = append(l, above(api.TreeParam, d.of("p", "class"), d.value(depth-1)))
		}
	}
	return append(l, d.block(depth))
}

func (d *dice) block(depth int) part {
	var l []part
	if depth > 1 {
		for range d.below(4) {
			l = append(l, d.statement(depth-1))
		}
	}
	return block(l...)
}

func (d *dice) value(depth int) part {
	if depth > 1 && d.below(3) > 0 {
		if d.below(3) == 0 {
			return above(api.TreeNot, "", d.value(depth-1))
		}
		return above(api.TreeOp, d.of("==", "!=", "and", "or"), d.value(depth-1), d.value(depth-1))
	}
	switch d.below(6) {
	case 0:
		return above(api.TreeText, d.of("", "/a", "a\nb", `"`, "\n\n", "}", "# no", "\xff\x00"))
	case 1:
		return above(api.TreeMixed, d.of("", "${a}", "a\nb", "'", "\n", "{\n  include a\n}", "é"))
	case 2:
		return above(api.TreeNumber, d.of("0", "007", "123456789"))
	case 3:
		return above(api.TreeVar, d.of("x", "or", "y_1"))
	case 4:
		return above(api.TreeTrue, "")
	}
	return above(api.TreeFalse, "")
}

// P13.1 to P13.4: larger arenas by fixed dice, and some that a few changes spoil.
func TestDice(t *testing.T) {
	t.Parallel()
	d := dice(13)
	printed, spoilt := 0, 0
	for range 400 {
		a := api.Arena{N: d.block(2 + d.below(9))}
		if !wantModel(t, a) {
			continue // too many nodes
		}
		printed++
		for range 3 {
			b := d.spoil(a)
			if !wantModel(t, b) {
				spoilt++
			}
		}
	}
	if printed < 300 || spoilt < 300 {
		t.Errorf("%d arenas were printed, %d spoilt", printed, spoilt)
	}
}

// spoil is an arena one or two changes away.
func (d *dice) spoil(a api.Arena) api.Arena {
	a = clone(a)
	for range 1 + d.below(2) {
		n := &a.N[d.below(len(a.N))]
		switch d.below(4) {
		case 0:
			n.Kind = d.below(kindCount)
		case 1:
			n.Text = d.of(texts()...)
		case 2:
			n.L = slices.Insert(n.L, d.below(len(n.L)+1), d.below(len(a.N)))
		case 3:
			i, k := d.below(len(a.N)), d.below(len(a.N))
			a.N[i], a.N[k] = a.N[k], a.N[i]
		}
	}
	return a
}

// P13.4: what is printed of any text that is read, is read as the same arena, and printed alike.
func TestRoundTrip(t *testing.T) {
	t.Parallel()
	d := dice(4)
	read := 0
	words := strings.Fields("include a b::c class define if else true false and or $x $y = == != => -> ~> ! { } ( ) [ ] : , 'a' \"b\" 1 A File")
	for range 60000 {
		var b strings.Builder
		for range d.below(14) {
			b.WriteString(d.of(words...) + d.of("", " ", "\n", " # no\n"))
		}
		l, _, e := lexer.Lex(b.String())
		if e != api.OK {
			continue
		}
		if a, _, e := syntax.Parse(l); e == api.OK {
			read++
			wantPrint(t, a, modelPrint(a))
		}
	}
	if read < 1000 {
		t.Errorf("%d texts were read", read)
	}
}
