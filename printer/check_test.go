package printer_test

import (
	"regexp"
	"slices"
	"strings"
	"testing"

	"majordomo/api"
	"majordomo/printer"
)

// include, value, block and others are parts of the fewest nodes.
func include() part { return above(api.TreeInclude, "a") }

func value() part { return above(api.TreeText, "t") }

func block(l ...part) part { return above(api.TreeBlock, "", l...) }

func ref() part { return above(api.TreeRef, "A", value()) }

func arrow() part { return above(api.TreeArrow, "->") }

// manifest is an arena of these statements.
func manifest(l ...part) api.Arena { return api.Arena{N: block(l...)} }

// kindCount is the kinds from 0 on, and one that is none.
const kindCount = 22

// least is a part with a node of this kind on top, sound in itself.
func least(kind int) part {
	switch kind {
	case api.TreeClass, api.TreeDefine:
		return above(kind, "c", block())
	case api.TreeParam, api.TreeVar:
		return above(kind, "p")
	case api.TreeInclude:
		return include()
	case api.TreeSet:
		return above(kind, "x", value())
	case api.TreeIf:
		return above(kind, "", value(), block())
	case api.TreeResource:
		return above(kind, "f", value())
	case api.TreeAttr:
		return above(kind, "a", value())
	case api.TreeChain:
		return above(kind, "", ref(), arrow(), ref())
	case api.TreeRef:
		return ref()
	case api.TreeArrow:
		return arrow()
	case api.TreeText, api.TreeMixed:
		return above(kind, "t")
	case api.TreeNumber:
		return above(kind, "1")
	case api.TreeOp:
		return above(kind, "and", value(), value())
	case api.TreeNot:
		return above(kind, "", value())
	}
	return above(kind, "") // blocks, true, false, and what is no kind
}

// placed is an arena in which a part stands where its topmost node may stand.
func placed(p part) api.Arena {
	switch p[len(p)-1].Kind {
	case api.TreeParam:
		return manifest(above(api.TreeClass, "c", p, block()))
	case api.TreeAttr:
		return manifest(above(api.TreeResource, "f", value(), p))
	case api.TreeRef:
		return manifest(above(api.TreeChain, "", ref(), arrow(), p))
	case api.TreeArrow:
		return manifest(above(api.TreeChain, "", ref(), p, ref()))
	case api.TreeBlock:
		return manifest(above(api.TreeDefine, "d", p))
	case api.TreeText, api.TreeMixed, api.TreeNumber, api.TreeVar, api.TreeTrue, api.TreeFalse, api.TreeOp, api.TreeNot:
		return manifest(above(api.TreeSet, "x", p))
	}
	return manifest(p)
}

// P13.1: no nodes at all, and one.
func TestFew(t *testing.T) {
	wantRefused(t, api.Arena{})
	wantRefused(t, arena())
	wantTaken(t, arena(x(api.TreeBlock, "")))
	for kind := -2; kind < kindCount+3; kind++ {
		for _, text := range []string{"", "a", "A", "1", "->", "==", "true"} {
			wantCheck(t, arena(x(kind, text)), kind == api.TreeBlock && text == "")
		}
	}
	for _, l := range [][]int{{0}, {1}, {-1}, {0, 0}, {1 << 40}, {-1 << 40}} {
		wantRefused(t, arena(x(api.TreeBlock, "", l...)))
		wantRefused(t, arena(x(api.TreeInclude, "a"), x(api.TreeBlock, "", append(l, 0)...)))
	}
}

// P13.1: each kind of nodes stands where it may, and a manifest of any other kind is none.
func TestKinds(t *testing.T) {
	for kind := api.TreeBlock; kind <= api.TreeNot; kind++ {
		wantTaken(t, placed(least(kind)))
		wantCheck(t, api.Arena{N: least(kind)}, kind == api.TreeBlock)
	}
	for _, kind := range []int{0, -1, 21, 22, -20, 1 << 8, 1<<8 + api.TreeBlock, 1 << 32, 1<<32 + api.TreeInclude, -1 << 63, 1<<63 - 1} {
		wantRefused(t, placed(least(kind)))
		wantRefused(t, api.Arena{N: least(kind)})
		wantRefused(t, api.Arena{N: above(kind, "", least(api.TreeInclude))})
		for above := api.TreeBlock; above <= api.TreeNot; above++ {
			a := placed(least(above))
			for i := range a.N {
				b := clone(a)
				b.N[i].Kind = kind
				wantRefused(t, b)
			}
		}
	}
}

// belowForms is what may be below each kind of nodes, with a letter for each one: s a statement, b a block, v a value, p a param, t an attr, r a ref, w an arrow.
var belowForms = map[int]*regexp.Regexp{
	api.TreeBlock:    regexp.MustCompile(`^s*$`),
	api.TreeClass:    regexp.MustCompile(`^p*b$`),
	api.TreeDefine:   regexp.MustCompile(`^p*b$`),
	api.TreeParam:    regexp.MustCompile(`^v?$`),
	api.TreeInclude:  regexp.MustCompile(`^$`),
	api.TreeSet:      regexp.MustCompile(`^v$`),
	api.TreeIf:       regexp.MustCompile(`^vbb?$`),
	api.TreeResource: regexp.MustCompile(`^vt*$`),
	api.TreeAttr:     regexp.MustCompile(`^v$`),
	api.TreeChain:    regexp.MustCompile(`^r(wr)+$`),
	api.TreeRef:      regexp.MustCompile(`^v$`),
	api.TreeArrow:    regexp.MustCompile(`^$`),
	api.TreeText:     regexp.MustCompile(`^$`),
	api.TreeMixed:    regexp.MustCompile(`^$`),
	api.TreeNumber:   regexp.MustCompile(`^$`),
	api.TreeVar:      regexp.MustCompile(`^$`),
	api.TreeTrue:     regexp.MustCompile(`^$`),
	api.TreeFalse:    regexp.MustCompile(`^$`),
	api.TreeOp:       regexp.MustCompile(`^vv$`),
	api.TreeNot:      regexp.MustCompile(`^v$`),
}

// letters is the letter of each kind from 1 on.
const letters = "bssp" + "sss" + "s" + "t" + "s" + "r" + "w" + "vvvvvvvv"

// wantBelow asks whether nodes of these kinds may be below one of each kind.
func wantBelow(t *testing.T, below []int) {
	t.Helper()
	var parts []part
	said := ""
	for _, kind := range below {
		parts = append(parts, least(kind))
		said += letters[kind-1 : kind]
	}
	for kind, form := range belowForms {
		p := least(kind)
		a := placed(above(kind, p[len(p)-1].Text, parts...))
		want := api.ErrSyntax
		if form.MatchString(said) {
			want = api.OK
		}
		if e := printer.Check(a); e != want {
			t.Errorf("%d with %v below it: %d", kind, below, e)
		}
	}
}

// sequences is all lists of up to so many of these.
func sequences(most int, l []int) [][]int {
	out := [][]int{nil}
	last := out
	for range most {
		var longer [][]int
		for _, s := range last {
			for _, k := range l {
				longer = append(longer, append(slices.Clip(s), k))
			}
		}
		out = append(out, longer...)
		last = longer
	}
	return out
}

// P13.1: as many nodes below, and of such kinds, as the grammar has, and no others.
func TestBelow(t *testing.T) {
	t.Parallel()
	var all []int
	for kind := api.TreeBlock; kind <= api.TreeNot; kind++ {
		all = append(all, kind)
	}
	for _, below := range sequences(3, all) {
		wantBelow(t, below)
	}
	for _, below := range sequences(5, []int{api.TreeBlock, api.TreeInclude, api.TreeParam, api.TreeVar, api.TreeAttr, api.TreeRef, api.TreeArrow}) {
		wantBelow(t, below)
	}
	for _, below := range sequences(8, []int{api.TreeRef, api.TreeArrow}) {
		wantBelow(t, below)
	}
}

// P13.1: operators and nots take each other, on either side; whether their values would be of a kind that they take, nobody asks.
func TestOperators(t *testing.T) {
	for _, one := range []string{"and", "or", "==", "!="} {
		for _, other := range []string{"and", "or", "==", "!="} {
			p := above(api.TreeOp, one, value(), value())
			wantTaken(t, placed(above(api.TreeOp, other, p, value())))
			wantTaken(t, placed(above(api.TreeOp, other, value(), p)))
			wantTaken(t, placed(above(api.TreeOp, other, p, p)))
			wantTaken(t, placed(above(api.TreeNot, "", above(api.TreeNot, "", p))))
		}
	}
}

// P13.1: only the order in which nodes end is one.
func TestOrder(t *testing.T) {
	n, one, two := x(api.TreeTrue, ""), x(api.TreeText, "1"), x(api.TreeText, "2")
	set := func(i int) api.Tree { return x(api.TreeSet, "x", i) }
	eq := func(i, k int) api.Tree { return x(api.TreeOp, "==", i, k) }
	wantTaken(t, arena(one, two, eq(0, 1), set(2), x(api.TreeBlock, "", 3)))
	for _, a := range []api.Arena{
		arena(two, one, eq(1, 0), set(2), x(api.TreeBlock, "", 3)),
		arena(one, two, eq(1, 0), set(2), x(api.TreeBlock, "", 3)),
		arena(one, eq(0, 2), two, set(1), x(api.TreeBlock, "", 3)),
		arena(eq(1, 2), one, two, set(0), x(api.TreeBlock, "", 3)),
		arena(x(api.TreeBlock, "", 1), set(2), eq(3, 4), one, two),
		arena(one, two, eq(0, 1), x(api.TreeBlock, "", 4), set(2)),
	} {
		wantRefused(t, a)
	}
	a, b := x(api.TreeInclude, "a"), x(api.TreeInclude, "b")
	wantTaken(t, arena(a, b, x(api.TreeBlock, "", 0, 1)))
	wantRefused(t, arena(a, b, x(api.TreeBlock, "", 1, 0)))
	// Each node behind those below it, and all below one; but those of the second statement begin ahead of the end of the first one.
	wantTaken(t, arena(n, set(0), n, set(2), x(api.TreeBlock, "", 1, 3)))
	wantRefused(t, arena(n, n, set(0), set(1), x(api.TreeBlock, "", 2, 3)))
	wantRefused(t, arena(n, n, set(1), set(0), x(api.TreeBlock, "", 2, 3)))
	wantRefused(t, arena(n, set(0), n, set(2), x(api.TreeBlock, "", 3, 1)))
	wantRefused(t, arena(one, n, two, set(1), eq(0, 2), set(4), x(api.TreeBlock, "", 3, 5)))
}

// P13.1: a node below two others, below none, below itself, or below one that is ahead of it.
func TestOnce(t *testing.T) {
	n, a := x(api.TreeTrue, ""), x(api.TreeInclude, "a")
	for _, b := range []api.Arena{
		arena(n, x(api.TreeSet, "x", 0), x(api.TreeSet, "y", 0), x(api.TreeBlock, "", 1, 2)), // below two
		arena(a, x(api.TreeBlock, "", 0, 0)),
		arena(n, x(api.TreeOp, "==", 0, 0), x(api.TreeSet, "x", 1), x(api.TreeBlock, "", 2)),
		arena(a, x(api.TreeBlock, "", 0), x(api.TreeClass, "c", 1), x(api.TreeBlock, "", 0, 2)),
		arena(a, x(api.TreeBlock, "")), // below none
		arena(a, a, x(api.TreeBlock, "", 0)),
		arena(a, a, x(api.TreeBlock, "", 1)),
		arena(x(api.TreeBlock, ""), x(api.TreeBlock, "")),
		arena(n, a, x(api.TreeBlock, "", 1)),
		arena(x(api.TreeBlock, "", 0)), // below itself
		arena(x(api.TreeBlock, "", 0), x(api.TreeClass, "c", 0), x(api.TreeBlock, "", 1)),
		arena(x(api.TreeNot, "", 0), x(api.TreeSet, "x", 0), x(api.TreeBlock, "", 1)),
		arena(a, x(api.TreeBlock, "", 0, 1)),
		arena(x(api.TreeSet, "x", 1), n, x(api.TreeBlock, "", 0)), // below one that is ahead of it
		arena(x(api.TreeNot, "", 1), x(api.TreeNot, "", 0), x(api.TreeSet, "x", 1), x(api.TreeBlock, "", 2)),
		arena(x(api.TreeBlock, "", 1), a),
		arena(a, x(api.TreeBlock, "", 2)), // no node at all
		arena(a, x(api.TreeBlock, "", -1)),
		arena(a, x(api.TreeBlock, "", 0, 2)),
		arena(a, x(api.TreeBlock, "", -1, 0)),
		arena(a, x(api.TreeBlock, "", 1<<63-1)),
		arena(a, x(api.TreeBlock, "", -1<<63)),
		arena(a, x(api.TreeBlock, "", slices.Repeat([]int{0}, 100000)...)),
	} {
		wantRefused(t, b)
	}
}

// labelForms is the Texts that nodes of each kind may have.
func labelForms() map[int]func(string) bool {
	word := func(kind int) func(string) bool {
		return func(s string) bool { return isWord(api.Word{Kind: kind, Text: s}) }
	}
	keyword := regexp.MustCompile(`^(class|define|include|if|else|true|false|and|or)$`)
	free := func(s string) bool { return word(api.WordName)(s) && !keyword.MatchString(s) }
	none := func(s string) bool { return s == "" }
	return map[int]func(string) bool{
		api.TreeBlock: none, api.TreeIf: none, api.TreeChain: none, api.TreeTrue: none, api.TreeFalse: none, api.TreeNot: none,
		api.TreeClass: free, api.TreeDefine: free, api.TreeInclude: free, api.TreeResource: free,
		api.TreeParam: word(api.WordVar), api.TreeSet: word(api.WordVar), api.TreeVar: word(api.WordVar),
		api.TreeAttr:   func(s string) bool { return word(api.WordName)(s) && !strings.Contains(s, ":") },
		api.TreeRef:    word(api.WordType),
		api.TreeArrow:  func(s string) bool { return s == "->" || s == "~>" },
		api.TreeOp:     func(s string) bool { return slices.Contains([]string{"==", "!=", "and", "or"}, s) },
		api.TreeText:   word(api.WordText),
		api.TreeMixed:  word(api.WordMixed),
		api.TreeNumber: word(api.WordNumber),
	}
}

// labels is texts of all sorts.
func labels() []string {
	l := []string{
		"", "a", "z9_", "a::b", "a::b::c", "a::", "::a", "a:", "a:b", "a:::b", "A", "Web_1", "WEB", "Web::Site", "A::b", "_", "_a", "1a", "é", "aé", "a\xff",
		"class", "define", "include", "if", "else", "true", "false", "and", "or", "Class", "If", "class::if", "if::else", "classes", "nor",
		"0", "1", "007", "123456789", "000000000", "1234567890", "0000000000", "-1", "1.5", "1 2", "12a", "１",
		"->", "~>", "=>", "==", "!=", "=", "!", "<-", "~", "-", ">", "===", "->~>", "-> ", " ->", "AND", "or or", "{", "}", "(", ")", "[", "]", ":", ",", "#", "$", "$a", "$a::b",
		" ", "a ", " a", "a b", "a\n", "\na", "a#", "a #b", "#a", "a\t", "a\r", "A ", " A", "A#", "1 ", " 1", "1#", "x y z", "\n", "a\nb", "\x00", "\xff\xfe",
		"'", "a'", "'a", "a'b", "'a'", "a' 'b", "a' # ", "a'#'", "''", "' '", `"`, `a"`, `"a`, `a"b`, `"a"`, `a" "b`, `a" # `, `""`, `'"`, `"'`, `${a}`, `${`, `a$`, "it''s", "/etc/motd", "a\n  b\n", "# no", "$x = 'a'", "include a",
	}
	for n := 65530; n <= 65540; n++ { // as long as a text with the word in it may be, and about that
		for _, unit := range []string{"a", "A", "1", "'", "\n", "a::"} {
			s := strings.Repeat(unit, n)[:n]
			l = append(l, s, "A"+s[1:])
		}
		l = append(l, "a"+strings.Repeat("::b", 21842)+strings.Repeat("x", n-65527))
	}
	for c := range 256 {
		b := string([]byte{byte(c)})
		l = append(l, b, "a"+b, b+"a", "A"+b, "1"+b, "a"+b+"b", "=="+b, b+"->")
	}
	return l
}

// P13.1: each kind of nodes with Texts of all sorts: none where the table mentions none, and else what some text has as a word.
func TestLabels(t *testing.T) {
	t.Parallel()
	for kind, is := range labelForms() {
		p := least(kind)
		for _, s := range labels() {
			p[len(p)-1].Text = s
			want := api.ErrSyntax
			if is(s) {
				want = api.OK
			}
			if e := printer.Check(placed(p)); e != want {
				t.Errorf("kind %d with the Text %.60q, of %d bytes: %d", kind, s, len(s), e)
			}
		}
	}
}

// P13.1: Texts that stand out, with each call.
func TestOddLabels(t *testing.T) {
	with := func(kind int, s string) api.Arena {
		p := least(kind)
		p[len(p)-1].Text = s
		return placed(p)
	}
	for _, k := range []string{"class", "define", "include", "if", "else", "true", "false", "and", "or"} {
		for _, kind := range []int{api.TreeClass, api.TreeDefine, api.TreeInclude, api.TreeResource, api.TreeRef, api.TreeTrue, api.TreeFalse, api.TreeIf} {
			wantRefused(t, with(kind, k))
		}
		for _, kind := range []int{api.TreeParam, api.TreeSet, api.TreeVar, api.TreeAttr, api.TreeText, api.TreeMixed} {
			wantTaken(t, with(kind, k))
		}
	}
	for kind := api.TreeBlock; kind <= api.TreeNot; kind++ {
		wantCheck(t, with(kind, ""), labelForms()[kind](""))
		wantCheck(t, with(kind, "a::b"), labelForms()[kind]("a::b"))
	}
	wantTaken(t, with(api.TreeNumber, "000000001"))
	wantRefused(t, with(api.TreeNumber, "0000000001"))
	wantRefused(t, with(api.TreeText, "it's"))
	wantTaken(t, with(api.TreeMixed, "it's"))
	wantTaken(t, with(api.TreeText, `say "a"`))
	wantRefused(t, with(api.TreeMixed, `say "a"`))
	wantTaken(t, with(api.TreeText, strings.Repeat("\n", 65534)))
	wantRefused(t, with(api.TreeText, strings.Repeat("\n", 65535)))
	wantTaken(t, with(api.TreeMixed, strings.Repeat("é", 32767)))
	wantRefused(t, with(api.TreeMixed, strings.Repeat("é", 32768)))
	wantTaken(t, with(api.TreeVar, strings.Repeat("v", 65535)))
	wantRefused(t, with(api.TreeVar, strings.Repeat("v", 65536)))
	wantTaken(t, with(api.TreeInclude, strings.Repeat("n", 65536)))
	wantRefused(t, with(api.TreeInclude, strings.Repeat("n", 65537)))
	wantTaken(t, with(api.TreeRef, "T"+strings.Repeat("t", 65535)))
	wantRefused(t, with(api.TreeRef, "T"+strings.Repeat("t", 65536)))
}
