package value_test

import (
	"strings"
	"testing"

	"majordomo/api"
)

// P14.3: the document's examples.
func TestExamples(t *testing.T) {
	env := []api.Bind{bind("x", num(12))}
	wantValue(t, "1 == '1'", env, yes(false), 3)
	wantValue(t, "true or $no", env, yes(true), 2)
	wantValue(t, `"a${x}b$"`, env, txt("a12b$"), 1)
	wantFault(t, "!'a'", env, api.ErrValue)
	wantFault(t, "$no", env, api.ErrVar)
	wantFault(t, `"${"`, env, api.ErrValue)
}

// P14.3: texts of up to 512 bytes, as they stand.
func TestText(t *testing.T) {
	for _, s := range []string{"", "a", "${s}", "$", "a\nb", "\"", "\x00\xff", "é", strings.Repeat("a", 512), strings.Repeat("\xff", 512), strings.Repeat("é", 256)} {
		wantValue(t, "'"+s+"'", vars(), txt(s), 1)
	}
	for _, s := range []string{strings.Repeat("a", 513), strings.Repeat("${s}", 129), strings.Repeat("é", 256) + "a", strings.Repeat("a", 65000), strings.Repeat("${", 257)} {
		wantFault(t, "'"+s+"'", vars(), api.ErrLong)
	}
}

// P14.3: mixed texts: the result of Mixed, or its error.
func TestMixedText(t *testing.T) {
	for s, want := range map[string]string{"": "", "a": "a", "${s}": "abc", "${n}${t}": "12true", "$${n}$": "$12$", "'${e}'": "''", "\xff${m}": "\xff-3", strings.Repeat("${e}", 1000): "", strings.Repeat("a", 512): strings.Repeat("a", 512)} {
		wantValue(t, `"`+s+`"`, vars(), txt(want), 1)
	}
	for s, e := range map[string]api.Errno{
		"${no}": api.ErrVar, "${": api.ErrValue, "${}": api.ErrValue, "${no}${": api.ErrVar, "${${no}": api.ErrValue, strings.Repeat("a", 513): api.ErrLong, strings.Repeat("${s}", 171): api.ErrLong, strings.Repeat("a", 513) + "${no}": api.ErrVar,
		strings.Repeat("a", 513) + "${": api.ErrValue, "${a::b}": api.ErrValue, "${S}": api.ErrValue,
	} {
		wantFault(t, `"`+s+`"`, vars(), e)
	}
}

// P14.3: numbers of up to nine digits, with noughts ahead.
func TestNumber(t *testing.T) {
	for s, n := range map[string]int{"0": 0, "1": 1, "12": 12, "007": 7, "08": 8, "000000000": 0, "000000010": 10, "999999999": 999999999, "123456789": 123456789, "0755": 755} {
		wantValue(t, s, nil, num(n), 1)
	}
	wantValue(t, "007 == 7", nil, yes(true), 3)
}

// P14.3: variables of each kind; the first one of a name counts; its value is answered as it stands.
func TestVariable(t *testing.T) {
	for _, b := range vars() {
		wantValue(t, "$"+b.Name, vars(), b.V, 1)
	}
	twice := []api.Bind{bind("a", num(1)), bind("x", num(2)), bind("x", num(3)), bind("xx", num(4))}
	wantValue(t, "$x", twice, num(2), 1)
	wantValue(t, "$xx", twice, num(4), 1)
	wantValue(t, "$if", append(twice, bind("if", yes(true))), yes(true), 1)
	wantFault(t, "$y", twice, api.ErrVar)
	wantFault(t, "$x", twice[:1], api.ErrVar)
	wantFault(t, "$x", nil, api.ErrVar)
	long := strings.Repeat("a", 10000)
	wantValue(t, "$x", []api.Bind{bind("x", txt(long))}, txt(long), 1)
	wantFault(t, `"${x}"`, []api.Bind{bind("x", txt(long))}, api.ErrLong)
	none := []api.Bind{bind("x", api.Value{})}
	wantValue(t, "$x", none, api.Value{}, 1)
	wantValue(t, "$x == $x", none, yes(false), 3)
	wantValue(t, "$x != $x", none, yes(true), 3)
	wantFault(t, "!$x", none, api.ErrValue)
	wantFault(t, "$x and true", none, api.ErrValue)
}

// P14.3: true, false, and nots of each kind and of nots.
func TestNot(t *testing.T) {
	wantValue(t, "true", nil, yes(true), 1)
	wantValue(t, "false", nil, yes(false), 1)
	wantValue(t, "!true", nil, yes(false), 2)
	wantValue(t, "!false", nil, yes(true), 2)
	wantValue(t, "!!true", nil, yes(true), 3)
	wantValue(t, "!!!!false", nil, yes(false), 5)
	wantValue(t, "!$t", vars(), yes(false), 2)
	wantValue(t, "!(1 == 2)", nil, yes(true), 4)
	wantValue(t, "!(true or $no)", nil, yes(false), 3)
	wantValue(t, strings.Repeat("!", 29)+"true", nil, yes(false), 30)
	for _, s := range []string{"'a'", "''", "'true'", `"true"`, "0", "1", "$s", "$n", "$e"} {
		wantFault(t, "!"+s, vars(), api.ErrValue)
		wantFault(t, "!!"+s, vars(), api.ErrValue)
	}
	wantFault(t, "!$no", vars(), api.ErrVar)
	wantFault(t, `!"${"`, vars(), api.ErrValue)
	wantFault(t, "!'"+strings.Repeat("a", 513)+"'", vars(), api.ErrLong)
}

// leaf is an expression of one node, and what it comes to.
type leaf struct {
	text string
	v    api.Value
	e    api.Errno
}

// leaves is some of each kind, and some of each error.
func leaves() []leaf {
	return []leaf{
		{"'a'", txt("a"), 0}, {"'12'", txt("12"), 0}, {"''", txt(""), 0}, {"'true'", txt("true"), 0}, {`"${n}"`, txt("12"), 0}, {`"a"`, txt("a"), 0}, {"12", num(12), 0}, {"0", num(0), 0}, {"012", num(12), 0}, {"true", yes(true), 0}, {"false", yes(false), 0},
		{"$s", txt("abc"), 0}, {"$n", num(12), 0}, {"$t", yes(true), 0}, {"$f", yes(false), 0}, {"$e", txt(""), 0},
		{"$no", api.Value{}, api.ErrVar}, {`"${no}"`, api.Value{}, api.ErrVar}, {`"${"`, api.Value{}, api.ErrValue}, {"'" + strings.Repeat("a", 513) + "'", api.Value{}, api.ErrLong}, {`"` + strings.Repeat("${s}", 171) + `"`, api.Value{}, api.ErrLong},
	}
}

// P14.3: == and != of any two: the first one's error counts first, and both are evaluated.
func TestEqual(t *testing.T) {
	for _, a := range leaves() {
		for _, b := range leaves() {
			e := a.e
			if e == api.OK {
				e = b.e
			}
			if e != api.OK {
				wantFault(t, a.text+" == "+b.text, vars(), e)
				wantFault(t, a.text+" != "+b.text, vars(), e)
				continue
			}
			wantValue(t, a.text+" == "+b.text, vars(), yes(a.v == b.v), 3)
			wantValue(t, a.text+" != "+b.text, vars(), yes(a.v != b.v), 3)
		}
	}
	wantValue(t, "1 == 1 == true", nil, yes(true), 5)
	wantValue(t, "1 != 1 != true", nil, yes(true), 5)
	wantValue(t, "(1 == 2) == (3 == 4)", nil, yes(true), 7)
}

// P14.3: and and or of any two: the first one's error or kind counts first; the second one counts only if the first one settles nothing.
func TestAndOr(t *testing.T) {
	for _, a := range leaves() {
		for _, b := range leaves() {
			for op, settles := range map[string]bool{"and": false, "or": true} {
				s := a.text + " " + op + " " + b.text
				switch {
				case a.e != api.OK:
					wantFault(t, s, vars(), a.e)
				case a.v.Kind != api.ValBool:
					wantFault(t, s, vars(), api.ErrValue)
				case a.v.Yes == settles:
					wantValue(t, s, vars(), yes(settles), 2)
				case b.e != api.OK:
					wantFault(t, s, vars(), b.e)
				case b.v.Kind != api.ValBool:
					wantFault(t, s, vars(), api.ErrValue)
				default:
					wantValue(t, s, vars(), b.v, 3)
				}
			}
		}
	}
}

// P14.3: steps of expressions in expressions, of which some are not evaluated.
func TestSteps(t *testing.T) {
	for text, want := range map[string]struct {
		yes   bool
		steps int
	}{
		"false and (1 == 2 and !$no)":                  {false, 2},
		"true and (1 == 2 and !$no)":                   {false, 6},
		"true and (1 == 1 and !$f)":                    {true, 8},
		"1 == 2 or 3 == 3 or $no":                      {true, 8},
		"(true or $no) and (false and $no or !$f)":     {true, 8},
		"!(false and $no) == ($t or $no)":              {true, 6},
		"false or false or false or true":              {true, 7},
		"true or false or false or false":              {true, 4},
		"true or (false or (false or false))":          {true, 2},
		"false and true or true and true":              {true, 6},
		"\"${n}\" == '12' and $n == 12 and $n != '12'": {true, 11},
	} {
		wantValue(t, text, vars(), yes(want.yes), want.steps)
	}
	wantFault(t, "true and (1 == 2 or $no)", vars(), api.ErrVar)
	wantFault(t, "(true and 1) == $no", vars(), api.ErrValue)
	wantFault(t, "$no == (true and 1)", vars(), api.ErrVar)
	wantFault(t, "(1 == 1) and (1 == 1) and 1", vars(), api.ErrValue)
}

// P14.3: an arena that Check refuses, whatever a node of it would come to on its own.
func TestRefused(t *testing.T) {
	for _, a := range []api.Arena{
		{},
		{N: []api.Tree{}},
		arena(x(api.TreeTrue, "")),
		arena(x(api.TreeTrue, ""), x(api.TreeSet, "z", 0)),
		arena(x(api.TreeTrue, ""), x(api.TreeSet, "Z", 0), x(api.TreeBlock, "", 1)),
		arena(x(api.TreeTrue, "a"), x(api.TreeSet, "z", 0), x(api.TreeBlock, "", 1)),
		arena(x(api.TreeText, "'"), x(api.TreeSet, "z", 0), x(api.TreeBlock, "", 1)),
		arena(x(api.TreeMixed, `"`), x(api.TreeSet, "z", 0), x(api.TreeBlock, "", 1)),
		arena(x(api.TreeNumber, "1234567890"), x(api.TreeSet, "z", 0), x(api.TreeBlock, "", 1)),
		arena(x(api.TreeNumber, ""), x(api.TreeSet, "z", 0), x(api.TreeBlock, "", 1)),
		arena(x(api.TreeNumber, "-1"), x(api.TreeSet, "z", 0), x(api.TreeBlock, "", 1)),
		arena(x(api.TreeVar, "s", 0), x(api.TreeSet, "z", 0), x(api.TreeBlock, "", 1)),
		arena(x(api.TreeNot, ""), x(api.TreeSet, "z", 0), x(api.TreeBlock, "", 1)),
		arena(x(api.TreeNot, "", 0), x(api.TreeSet, "z", 0), x(api.TreeBlock, "", 1)),
		arena(x(api.TreeNot, "", 9), x(api.TreeSet, "z", 0), x(api.TreeBlock, "", 1)),
		arena(x(api.TreeNot, "", -1), x(api.TreeSet, "z", 0), x(api.TreeBlock, "", 1)),
		arena(x(api.TreeTrue, ""), x(api.TreeOp, "and", 0), x(api.TreeSet, "z", 1), x(api.TreeBlock, "", 2)),
		arena(x(api.TreeTrue, ""), x(api.TreeTrue, ""), x(api.TreeOp, "&&", 0, 1), x(api.TreeSet, "z", 2), x(api.TreeBlock, "", 3)),
		arena(x(api.TreeTrue, ""), x(api.TreeTrue, ""), x(api.TreeOp, "", 0, 1), x(api.TreeSet, "z", 2), x(api.TreeBlock, "", 3)),
		arena(x(api.TreeTrue, ""), x(api.TreeTrue, ""), x(api.TreeSet, "z", 1), x(api.TreeBlock, "", 2)),
		arena(x(api.TreeTrue, ""), x(api.TreeSet, "z", 0), x(api.TreeInclude, "if"), x(api.TreeBlock, "", 1, 2)),
	} {
		for i := -1; i <= len(a.N); i++ {
			wantEval(t, a, i, vars(), api.Value{}, 0, api.ErrArg)
			wantEval(t, a, i, nil, api.Value{}, 0, api.ErrArg)
		}
	}
	deep, i := set(nots(30))
	wantEval(t, deep, i, nil, api.Value{}, 0, api.ErrArg)
	most, i := set(nots(29))
	wantEval(t, most, i, nil, yes(false), 30, api.OK)
}

// nots is true with so many nots ahead.
func nots(n int) part {
	p := above(api.TreeTrue, "")
	for range n {
		p = above(api.TreeNot, "", p)
	}
	return p
}

// P14.3: indexes of no node, and of each kind of node that is no value.
func TestNoValue(t *testing.T) {
	a := parse(t, `class a::b($p, $q = 1) { } define d { include e } $z = !(1 == "2") if true { } else { } file { 'f': mode => false } A['a'] -> B[$b]`)
	values := 0
	for i, n := range a.N {
		if n.Kind < api.TreeText {
			wantEval(t, a, i, vars(), api.Value{}, 0, api.ErrArg)
			continue
		}
		values++
		if n.Kind == api.TreeVar {
			wantEval(t, a, i, []api.Bind{bind("b", num(5))}, num(5), 1, api.OK)
		}
	}
	if values != 10 {
		t.Errorf("%d values", values)
	}
	kinds := map[int]bool{}
	for _, n := range a.N {
		kinds[n.Kind] = true
	}
	for kind := api.TreeBlock; kind <= api.TreeArrow; kind++ {
		if !kinds[kind] {
			t.Errorf("no node of kind %d", kind)
		}
	}
	for _, i := range []int{-1, -2, -len(a.N), len(a.N), len(a.N) + 1, 1 << 40, -1 << 63, 1<<63 - 1} {
		wantEval(t, a, i, vars(), api.Value{}, 0, api.ErrArg)
	}
}

// conjunction is so many trues with an and between each two, 2n - 1 nodes in all, as flat as can be.
func conjunction(n int) part {
	if n == 1 {
		return above(api.TreeTrue, "")
	}
	return above(api.TreeOp, "and", conjunction(n/2), conjunction(n-n/2))
}

// P14.3: an arena of the most nodes, and of one more.
func TestMost(t *testing.T) {
	a, i := set(above(api.TreeOp, "==", conjunction(256), above(api.TreeNot, "", conjunction(255))))
	if len(a.N) != api.MaxTree {
		t.Fatalf("%d nodes", len(a.N))
	}
	wantEval(t, a, i, nil, yes(false), api.MaxTree-2, api.OK)
	a, i = set(above(api.TreeOp, "==", conjunction(256), conjunction(256)))
	wantEval(t, a, i, nil, api.Value{}, 0, api.ErrArg)
}
