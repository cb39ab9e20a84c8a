package printer_test

import (
	"strings"
	"testing"

	"majordomo/api"
	"majordomo/printer"
)

// P13.3: each node of an arena, on its own.
func TestValue(t *testing.T) {
	for text, want := range map[string][]string{
		"":                            {"{\n}"},
		"include a":                   {"include a", "{\n  include a\n}"},
		"$x=1==2 or!true":             {"1", "2", "(1 == 2)", "true", "!true", "((1 == 2) or !true)", "$x = ((1 == 2) or !true)", "{\n  $x = ((1 == 2) or !true)\n}"},
		"$x=false and$y!=\"a\n${b}\"": {"false", "$y", "\"a\n${b}\"", "($y != \"a\n${b}\")", "(false and ($y != \"a\n${b}\"))", "$x = (false and ($y != \"a\n${b}\"))", "{\n  $x = (false and ($y != \"a\n${b}\"))\n}"},
		"file{'/a':}":                 {"'/a'", "file { '/a': }", "{\n  file { '/a': }\n}"},
		"file{'/a':b=>1,if=>'\n'}":    {"'/a'", "1", "b => 1", "'\n'", "if => '\n'", "file { '/a': b => 1, if => '\n' }", "{\n  file { '/a': b => 1, if => '\n' }\n}"},
		"A[1]->B['2']~>C[$d]": {
			"1", "A[1]", "->", "'2'", "B['2']", "~>", "$d", "C[$d]", "A[1] -> B['2'] ~> C[$d]", "{\n  A[1] -> B['2'] ~> C[$d]\n}",
		},
		"class a($b,$c=1){define d{}}": {
			"$b", "1", "$c = 1", "{\n}", "define d {\n}", "{\n  define d {\n  }\n}", "class a($b, $c = 1) {\n  define d {\n  }\n}",
			"{\n  class a($b, $c = 1) {\n    define d {\n    }\n  }\n}",
		},
		"class a{if 1{$x='\n'}else{}include b}": {
			"1", "'\n'", "$x = '\n'", "{\n  $x = '\n'\n}", "{\n}", "if 1 {\n  $x = '\n'\n} else {\n}", "include b",
			"{\n  if 1 {\n    $x = '\n'\n  } else {\n  }\n  include b\n}",
			"class a {\n  if 1 {\n    $x = '\n'\n  } else {\n  }\n  include b\n}",
			"{\n  class a {\n    if 1 {\n      $x = '\n'\n    } else {\n    }\n    include b\n  }\n}",
		},
	} {
		for _, a := range lists(parse(t, text)) {
			if len(a.N) != len(want) {
				t.Fatalf("%q: %d nodes", text, len(a.N))
			}
			before := clone(a)
			for i := range want {
				wantValue(t, a, i, want[i])
			}
			for _, i := range []int{-1, -2, -len(want), len(want), len(want) + 1, 1 << 40, -1 << 63, 1<<63 - 1} {
				wantValue(t, a, i, "")
			}
			if !same(a, before) {
				t.Errorf("%q: the arena was changed", text)
			}
		}
	}
}

// P13.3: a node of each kind, wherever it stands.
func TestValueKinds(t *testing.T) {
	for kind, want := range map[int]string{
		api.TreeBlock: "{\n}", api.TreeClass: "class c {\n}", api.TreeDefine: "define c {\n}", api.TreeParam: "$p", api.TreeInclude: "include a", api.TreeSet: "$x = 't'",
		api.TreeIf: "if 't' {\n}", api.TreeResource: "f { 't': }", api.TreeAttr: "a => 't'", api.TreeChain: "A['t'] -> A['t']", api.TreeRef: "A['t']", api.TreeArrow: "->",
		api.TreeText: "'t'", api.TreeMixed: `"t"`, api.TreeNumber: "1", api.TreeVar: "$p", api.TreeTrue: "true", api.TreeFalse: "false", api.TreeOp: "('t' and 't')", api.TreeNot: "!'t'",
	} {
		a := placed(least(kind))
		found := 0
		for i, n := range a.N {
			if n.Kind == kind && (kind != api.TreeBlock && kind != api.TreeText || i < len(a.N)-1) {
				found++
				wantValue(t, a, i, want)
			}
		}
		if found == 0 {
			t.Errorf("kind %d: no node", kind)
		}
	}
}

// P13.3: what Check refuses has no values, whatever of it would have one on its own.
func TestNoValue(t *testing.T) {
	for _, a := range []api.Arena{
		{},
		arena(x(api.TreeInclude, "a")),
		arena(x(api.TreeTrue, "")),
		arena(x(api.TreeInclude, "a"), x(api.TreeInclude, "b"), x(api.TreeBlock, "", 0)),
		arena(x(api.TreeInclude, "a"), x(api.TreeInclude, "if"), x(api.TreeBlock, "", 0, 1)),
		manifest(times(1024, include())...),
	} {
		for i := -2; i < len(a.N)+2; i++ {
			wantValue(t, a, i, "")
		}
	}
}

// P13.3: a value may be longer than what Print answers.
func TestLongValue(t *testing.T) {
	name := strings.Repeat("a", 65536)
	a := manifest(times(3, above(api.TreeInclude, name))...)
	wantLong(t, a)
	wantValue(t, a, 1, "include "+name)
	wantValue(t, a, 3, "{\n"+strings.Repeat("  include "+name+"\n", 3)+"}")
	long := strings.Repeat("\n", 65534)
	a = placed(above(api.TreeOp, "==", above(api.TreeText, long), above(api.TreeMixed, long)))
	wantLong(t, a)
	wantValue(t, a, 2, "('"+long+"' == \""+long+"\")")
}

// P13.3, R6: answers hang on the arguments alone.
func TestAgain(t *testing.T) {
	a := parse(t, "class a($b = 1) { if $b == 2 { include c } }")
	other := parse(t, "f { 'g': h => !true }")
	want, _ := printer.Print(a)
	for range 3 {
		for i := range other.N {
			printer.Value(other, i)
		}
		if s, e := printer.Print(a); s != want || e != api.OK {
			t.Errorf("%q, %d", s, e)
		}
		wantValue(t, a, 1, "$b = 1")
	}
}
