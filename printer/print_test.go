package printer_test

import (
	"strings"
	"testing"

	"majordomo/api"
	"majordomo/printer"
)

// wantText asks for the canonical form of a text, and that this form is its own.
func wantText(t *testing.T, text, want string) {
	t.Helper()
	wantPrint(t, parse(t, text), want)
	wantPrint(t, parse(t, want), want)
}

// P13.2: the document's examples.
func TestExamples(t *testing.T) {
	wantText(t, "if $x==1 and !$y{include a}", "if (($x == 1) and !$y) {\n  include a\n}\n")
	wantText(t, "file{'/a':mode=>'0600'}", "file { '/a': mode => '0600' }\n")
	wantText(t, "class a($b,$c=1){}", "class a($b, $c = 1) {\n}\n")
}

// P13.2: arenas written out, nodes as they stand.
func TestArenas(t *testing.T) {
	wantPrint(t, arena(x(api.TreeBlock, "")), "")
	wantPrint(t, arena(x(api.TreeInclude, "a"), x(api.TreeBlock, "", 0)), "include a\n")
	wantPrint(t, arena(x(api.TreeNumber, "1"), x(api.TreeNumber, "2"), x(api.TreeOp, "==", 0, 1), x(api.TreeTrue, ""), x(api.TreeNot, "", 3), x(api.TreeOp, "or", 2, 4), x(api.TreeSet, "x", 5), x(api.TreeBlock, "", 6)), "$x = ((1 == 2) or !true)\n")
	wantPrint(t, arena(x(api.TreeParam, "b"), x(api.TreeNumber, "1"), x(api.TreeParam, "c", 1), x(api.TreeInclude, "d"), x(api.TreeBlock, "", 3), x(api.TreeClass, "a", 0, 2, 4), x(api.TreeBlock, "", 5)), "class a($b, $c = 1) {\n  include d\n}\n")
	wantPrint(t, arena(x(api.TreeText, "/a"), x(api.TreeRef, "File", 0), x(api.TreeArrow, "->"), x(api.TreeMixed, "${b}"), x(api.TreeRef, "File", 3), x(api.TreeChain, "", 1, 2, 4), x(api.TreeBlock, "", 5)), "File['/a'] -> File[\"${b}\"]\n")
}

// P13.2: no statements, one, and several.
func TestStatements(t *testing.T) {
	wantText(t, "", "")
	wantText(t, " # no", "")
	wantText(t, "include a", "include a\n")
	wantText(t, "include a include b::c\ninclude d", "include a\ninclude b::c\ninclude d\n")
	wantText(t, "$x=1 class c{}f{1:}A[1]->B[2]if 1{}define d{}include a", "$x = 1\nclass c {\n}\nf { 1: }\nA[1] -> B[2]\nif 1 {\n}\ndefine d {\n}\ninclude a\n")
}

// P13.2: classes and defines, with no params, one, several, with values and without.
func TestDeclarations(t *testing.T) {
	for _, k := range []string{"class", "define"} {
		wantText(t, k+" a{}", k+" a {\n}\n")
		wantText(t, k+" a::b ( ) { }", k+" a::b {\n}\n")
		wantText(t, k+" a($b){}", k+" a($b) {\n}\n")
		wantText(t, k+" a($b='c'){}", k+" a($b = 'c') {\n}\n")
		wantText(t, k+" a($b,$c){}", k+" a($b, $c) {\n}\n")
		wantText(t, k+" a($b=1,$c,$if=$d or!$e,$f){include g}", k+" a($b = 1, $c, $if = ($d or !$e), $f) {\n  include g\n}\n")
	}
}

// P13.2: a variable's value, of each kind.
func TestValues(t *testing.T) {
	for text, want := range map[string]string{
		"''": "''", "'a b'": "'a b'", `""`: `""`, `"a${b}"`: `"a${b}"`, "0": "0", "007": "007", "123456789": "123456789",
		"$a": "$a", "$if": "$if", "true": "true", "false": "false", "(((1)))": "1", "!(true)": "!true",
		`'"'`: `'"'`, `"'"`: `"'"`, "'\t\r\x00\xff'": "'\t\r\x00\xff'", "'# no'": "'# no'",
	} {
		wantText(t, "$x="+text, "$x = "+want+"\n")
		wantText(t, "class c($x="+text+"){}", "class c($x = "+want+") {\n}\n")
		wantText(t, "if "+text+"{}", "if "+want+" {\n}\n")
		wantText(t, "f{"+text+":}", "f { "+want+": }\n")
		wantText(t, "f{1:a=>"+text+"}", "f { 1: a => "+want+" }\n")
		wantText(t, "A["+text+"]~>B["+text+"]", "A["+want+"] ~> B["+want+"]\n")
	}
}

// P13.2: operators in operators, on either side, and nots of nots and of operators.
func TestBrackets(t *testing.T) {
	for text, want := range map[string]string{
		"1 or 2":                     "(1 or 2)",
		"1 and 2":                    "(1 and 2)",
		"1==2":                       "(1 == 2)",
		"1!=2":                       "(1 != 2)",
		"1 or 2 or 3":                "((1 or 2) or 3)",
		"1 or(2 or 3)":               "(1 or (2 or 3))",
		"1==2==3!=4":                 "(((1 == 2) == 3) != 4)",
		"1==(2==(3!=4))":             "(1 == (2 == (3 != 4)))",
		"1 and 2 or 3 and 4":         "((1 and 2) or (3 and 4))",
		"1 and(2 or 3)and 4":         "((1 and (2 or 3)) and 4)",
		"1 or 2 and 3==4":            "(1 or (2 and (3 == 4)))",
		"((1 or 2)and 3)==4":         "(((1 or 2) and 3) == 4)",
		"!1":                         "!1",
		"!!1":                        "!!1",
		"!!!$a":                      "!!!$a",
		"!(1 or 2)":                  "!(1 or 2)",
		"!(!(1==2))":                 "!!(1 == 2)",
		"!1==!2":                     "(!1 == !2)",
		"!(1==2)and!(3 or!(4!='a'))": "(!(1 == 2) and !(3 or !(4 != 'a')))",
		"!'='":                       "!'='",
		`!"="`:                       `!"="`,
	} {
		wantText(t, "$x="+text, "$x = "+want+"\n")
		wantText(t, "if "+text+"{}", "if "+want+" {\n}\n")
	}
}

// P13.2: if, with an else and with none.
func TestIf(t *testing.T) {
	wantText(t, "if true{}", "if true {\n}\n")
	wantText(t, "if true{}else{}", "if true {\n} else {\n}\n")
	wantText(t, "if true{include a}", "if true {\n  include a\n}\n")
	wantText(t, "if true{}else{include a}", "if true {\n} else {\n  include a\n}\n")
	wantText(t, "if true{include a include b}else{include c include d}", "if true {\n  include a\n  include b\n} else {\n  include c\n  include d\n}\n")
	wantText(t, "if 1{}if 2{}else{}if 3{}", "if 1 {\n}\nif 2 {\n} else {\n}\nif 3 {\n}\n")
}

// P13.2: resources with no attrs, one, and several.
func TestResources(t *testing.T) {
	wantText(t, "file{'/a':}", "file { '/a': }\n")
	wantText(t, "a::b{$x:c=>1}", "a::b { $x: c => 1 }\n")
	wantText(t, "file{'/a':mode=>'0600',if=>true}", "file { '/a': mode => '0600', if => true }\n")
	wantText(t, "f{1==2:a=>1,b=>!2,a=>3 or 4}", "f { (1 == 2): a => 1, b => !2, a => (3 or 4) }\n")
}

// P13.2: chains of two refs, and of several.
func TestChains(t *testing.T) {
	wantText(t, "A['b']->C['d']", "A['b'] -> C['d']\n")
	wantText(t, "A['b']~>C['d']", "A['b'] ~> C['d']\n")
	wantText(t, "A[1]->B[2]~>C[3]~>D[4]->Class['e']", "A[1] -> B[2] ~> C[3] ~> D[4] -> Class['e']\n")
	wantText(t, "A[1]->B[2]A[3]->B[!4 and 5]", "A[1] -> B[2]\nA[3] -> B[(!4 and 5)]\n")
}

// P13.2: blocks in blocks, empty and not: two spaces for each block around a line.
func TestBlocks(t *testing.T) {
	wantText(t, "class a{class b{class c{}}}", "class a {\n  class b {\n    class c {\n    }\n  }\n}\n")
	wantText(t, "define a{if 1{include b}else{if 2{}else{$x=3}}include c}include d", strings.Join([]string{
		"define a {",
		"  if 1 {",
		"    include b",
		"  } else {",
		"    if 2 {",
		"    } else {",
		"      $x = 3",
		"    }",
		"  }",
		"  include c",
		"}",
		"include d",
		"",
	}, "\n"))
	wantText(t, "class a{}class b{f{1:}A[1]->B[2]define c($d){}}", "class a {\n}\nclass b {\n  f { 1: }\n  A[1] -> B[2]\n  define c($d) {\n  }\n}\n")
	wantText(t, strings.Repeat("if 1{", 15)+strings.Repeat("}", 15), func() string {
		s := ""
		for k := range 15 {
			s += strings.Repeat("  ", k) + "if 1 {\n"
		}
		for k := range 15 {
			s += strings.Repeat("  ", 14-k) + "}\n"
		}
		return s
	}())
}

// P13.2: strings stand as they are, with the line feeds in them, and no spaces are put behind those.
func TestLineFeeds(t *testing.T) {
	wantText(t, "$x='a\nb'", "$x = 'a\nb'\n")
	wantText(t, "class c{$x='a\nb'}", "class c {\n  $x = 'a\nb'\n}\n")
	wantText(t, "class c{$x=\"a\nb\"}", "class c {\n  $x = \"a\nb\"\n}\n")
	wantText(t, "class c{if '\n'{$x=\"\n\n\"}}", "class c {\n  if '\n' {\n    $x = \"\n\n\"\n  }\n}\n")
	wantText(t, "class c{f{'\n  a':b=>'\n    c\n',d=>\"\n{\n}\"}include e}", "class c {\n  f { '\n  a': b => '\n    c\n', d => \"\n{\n}\" }\n  include e\n}\n")
	wantText(t, "class c($p='\n'){class d($q=\"\r\n\"){A['\n']->B[\"\n\"]}}", "class c($p = '\n') {\n  class d($q = \"\r\n\") {\n    A['\n'] -> B[\"\n\"]\n  }\n}\n")
	wantText(t, "class c{$x=!'\n'=='\n\n'}", "class c {\n  $x = (!'\n' == '\n\n')\n}\n")
}

// P13.2: an arena that Check refuses is not printed.
func TestNotPrinted(t *testing.T) {
	for _, a := range []api.Arena{
		{},
		arena(x(api.TreeInclude, "a")),
		arena(x(api.TreeInclude, "if"), x(api.TreeBlock, "", 0)),
		arena(x(api.TreeInclude, "a"), x(api.TreeInclude, "b"), x(api.TreeBlock, "", 1, 0)),
	} {
		if s, e := printer.Print(a); s != "" || e != api.ErrSyntax {
			t.Errorf("Print(%s): %q, %d", short(a), s, e)
		}
		wantRefused(t, a)
	}
}
