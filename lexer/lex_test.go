package lexer_test

import (
	"slices"
	"strings"
	"testing"

	"majordomo/api"
	"majordomo/lexer"
)

// P11.2: the document's examples, with the place of each word.
func TestExamples(t *testing.T) {
	wantWords(t, "file { '/a': }", word(api.WordName, "file", 0), word(api.WordSign, "{", 5), word(api.WordText, "/a", 7), word(api.WordSign, ":", 11), word(api.WordSign, "}", 13))
	wantWords(t, `$x = "a${y}" # no`, word(api.WordVar, "x", 0), word(api.WordSign, "=", 3), word(api.WordMixed, "a${y}", 5))
	wantWords(t, "a::b a: :b", word(api.WordName, "a::b", 0), word(api.WordName, "a", 5), word(api.WordSign, ":", 6), word(api.WordSign, ":", 8), word(api.WordName, "b", 9))
	wantFault(t, "a 'b", 2, api.ErrToken)
	wantFault(t, "$1", 0, api.ErrToken)
	wantFault(t, "1234567890", 0, api.ErrToken)
}

// P11.2: texts with no words.
func TestNoWords(t *testing.T) {
	for _, s := range []string{"", " ", "\t\n\r ", "#", "# a ' \" $ 1234567890", "#\n", "#\n#", " # a\n\t# b\r\n ", "##", "#\xff\x00é"} {
		wantWords(t, s)
	}
}

// P11.2: a text of 65536 bytes is taken, one of 65537 is not, whatever is in it.
func TestLong(t *testing.T) {
	const most = 65536
	for _, s := range []string{" ", "a", "{", "1", ";", "'", "\"", "#", "$", "\xff", "\n"} {
		wantModel(t, strings.Repeat(s, most))
		wantFault(t, strings.Repeat(s, most+1), 0, api.ErrLong)
		wantFault(t, strings.Repeat(s, 4*most), 0, api.ErrLong)
	}
	var signs []api.Word
	for i := range most {
		signs = append(signs, word(api.WordSign, "{", i))
	}
	wantWords(t, strings.Repeat("{", most), signs...)
	inside := strings.Repeat("\n", most-2)
	wantWords(t, "'"+inside+"'", word(api.WordText, inside, 0))
	wantWords(t, `"`+inside+`"`, word(api.WordMixed, inside, 0))
	wantWords(t, strings.Repeat(" ", most-1)+"a", word(api.WordName, "a", most-1))
	wantWords(t, "#"+strings.Repeat("x", most-1))
	wantFault(t, strings.Repeat(" ", most-1)+";", most-1, api.ErrToken)
	wantFault(t, strings.Repeat("{", most-1)+";", most-1, api.ErrToken)
	wantFault(t, strings.Repeat(" ", most)+";", 0, api.ErrLong)
	wantFault(t, ";"+strings.Repeat(" ", most), 0, api.ErrLong)
}

// P11.2: four bytes are white space; others begin a word, or none.
func TestWhiteSpace(t *testing.T) {
	white := "\t\n\r "
	for _, b := range allBytes() {
		wantModel(t, b)
		wantModel(t, "a"+b+"b")
		wantModel(t, "a "+b+" b")
		if strings.Contains(white, b) {
			wantWords(t, "a"+b+"b", word(api.WordName, "a", 0), word(api.WordName, "b", 2))
			wantWords(t, b+b+"="+b+"="+b, word(api.WordSign, "=", 2), word(api.WordSign, "=", 4))
		}
	}
	for _, s := range []string{"\v", "\f", "\x00", "\b", "\x1f", "\x7f", "\x85", "\xa0", "\u0085", "\u00a0", "\u2028", "\u3000", "\ufeff"} {
		wantFault(t, s, 0, api.ErrToken)
		wantFault(t, "a "+s+" b", 2, api.ErrToken)
	}
}

// P11.2: a comment ends with the line, or with the text.
func TestComments(t *testing.T) {
	wantWords(t, "a#b", word(api.WordName, "a", 0))
	wantWords(t, "a#b\nc", word(api.WordName, "a", 0), word(api.WordName, "c", 4))
	wantWords(t, "#'\n'#'", word(api.WordText, "#", 3))
	wantWords(t, "a # ' \" $ ; \xff 1234567890 #\n#\n b", word(api.WordName, "a", 0), word(api.WordName, "b", 30))
	wantWords(t, "#a\r#b\rc\nd", word(api.WordName, "d", 8)) // a carriage return ends no line
	wantWords(t, "=#\n=", word(api.WordSign, "=", 0), word(api.WordSign, "=", 3))
	wantWords(t, "a:#\n:b", word(api.WordName, "a", 0), word(api.WordSign, ":", 1), word(api.WordSign, ":", 4), word(api.WordName, "b", 5))
	wantWords(t, "'#' \"#\"", word(api.WordText, "#", 0), word(api.WordMixed, "#", 4))
	wantFault(t, "#\n;", 2, api.ErrToken)
	wantFault(t, "$#a\na", 0, api.ErrToken)
	for _, b := range allBytes() {
		wantWords(t, "a#"+b+"\nc", word(api.WordName, "a", 0), word(api.WordName, "c", 4))
	}
}

// P11.2: names of one part and of several, keywords among them, and what is behind a name and no part of it.
func TestNameWords(t *testing.T) {
	for _, s := range []string{"a", "z", "a1_", "file", "class", "define", "include", "if", "else", "true", "false", "and", "or", "a::b", "a::b::c", "if::else", strings.Repeat("a", 60000), "a" + strings.Repeat("::b", 20000)} {
		wantWords(t, s, word(api.WordName, s, 0))
		wantWords(t, "\n "+s+" ", word(api.WordName, s, 2))
	}
	colon := func(at int) api.Word { return word(api.WordSign, ":", at) }
	a := word(api.WordName, "a", 0)
	wantWords(t, "a:", a, colon(1))
	wantWords(t, "a::", a, colon(1), colon(2))
	wantWords(t, "::a", colon(0), colon(1), word(api.WordName, "a", 2))
	wantWords(t, "a:b", a, colon(1), word(api.WordName, "b", 2))
	wantWords(t, "a:::b", a, colon(1), colon(2), colon(3), word(api.WordName, "b", 4))
	wantWords(t, "a: :b", a, colon(1), colon(3), word(api.WordName, "b", 4))
	wantWords(t, "a ::b", a, colon(2), colon(3), word(api.WordName, "b", 4))
	wantWords(t, "a::B", a, colon(1), colon(2), word(api.WordType, "B", 3))
	wantWords(t, "a::1", a, colon(1), colon(2), word(api.WordNumber, "1", 3))
	wantWords(t, "a::$b", a, colon(1), colon(2), word(api.WordVar, "b", 3))
	wantWords(t, "a::b::", word(api.WordName, "a::b", 0), colon(4), colon(5))
	wantWords(t, "a::b:c", word(api.WordName, "a::b", 0), colon(4), word(api.WordName, "c", 5))
	wantWords(t, "aB", a, word(api.WordType, "B", 1))
	wantWords(t, "a'b'", a, word(api.WordText, "b", 1))
	wantWords(t, "a1234567890", word(api.WordName, "a1234567890", 0))
	wantFault(t, "a::_", 3, api.ErrToken)
	wantFault(t, "a::_b", 3, api.ErrToken)
	wantFault(t, "a::1234567890", 3, api.ErrToken)
	wantFault(t, "_a", 0, api.ErrToken)
	wantFault(t, "a-b", 1, api.ErrToken)
	wantFault(t, "a.b", 1, api.ErrToken)
	wantFault(t, "aé", 1, api.ErrToken)
}

// P11.2: types.
func TestTypeWords(t *testing.T) {
	for _, s := range []string{"A", "Z", "Web_1", "Class", "F" + strings.Repeat("a", 60000)} {
		wantWords(t, s, word(api.WordType, s, 0))
		wantWords(t, "\r"+s+"\t", word(api.WordType, s, 1))
	}
	wantWords(t, "Ab['x']", word(api.WordType, "Ab", 0), word(api.WordSign, "[", 2), word(api.WordText, "x", 3), word(api.WordSign, "]", 6))
	wantWords(t, "WEb", word(api.WordType, "W", 0), word(api.WordType, "Eb", 1))
	wantWords(t, "Web::Site", word(api.WordType, "Web", 0), word(api.WordSign, ":", 3), word(api.WordSign, ":", 4), word(api.WordType, "Site", 5))
	wantWords(t, "Web::site", word(api.WordType, "Web", 0), word(api.WordSign, ":", 3), word(api.WordSign, ":", 4), word(api.WordName, "site", 5))
	wantWords(t, "A1234567890", word(api.WordType, "A1234567890", 0))
	wantFault(t, "_A", 0, api.ErrToken)
	wantFault(t, "A-", 1, api.ErrToken)
	wantFault(t, "AÉ", 1, api.ErrToken)
}

// P11.2: variables have one part, and '$' alone is none.
func TestVariables(t *testing.T) {
	for _, s := range []string{"a", "z", "x1", "fact_os", "a__", "if", "true", strings.Repeat("v", 60000)} {
		wantWords(t, "$"+s, word(api.WordVar, s, 0))
		wantWords(t, " $"+s+"\n", word(api.WordVar, s, 1))
	}
	wantWords(t, "$a::b", word(api.WordVar, "a", 0), word(api.WordSign, ":", 2), word(api.WordSign, ":", 3), word(api.WordName, "b", 4))
	wantWords(t, "$a::", word(api.WordVar, "a", 0), word(api.WordSign, ":", 2), word(api.WordSign, ":", 3))
	wantWords(t, "$a:b", word(api.WordVar, "a", 0), word(api.WordSign, ":", 2), word(api.WordName, "b", 3))
	wantWords(t, "$a$b", word(api.WordVar, "a", 0), word(api.WordVar, "b", 2))
	wantWords(t, "$aB", word(api.WordVar, "a", 0), word(api.WordType, "B", 2))
	wantWords(t, "$a1234567890", word(api.WordVar, "a1234567890", 0))
	for _, s := range []string{"$", "$ a", "$1", "$1a", "$A", "$Ab", "$_", "$_a", "$$", "$$a", "$::a", "$:", "$'a'", "${a}", "$\na", "$é", "$\xff", "$\x00", "$#", "$=", "$!"} {
		wantFault(t, s, 0, api.ErrToken)
		wantFault(t, "a "+s, 2, api.ErrToken)
		wantFault(t, "a"+s+" b", 1, api.ErrToken)
	}
	wantFault(t, "$a $", 3, api.ErrToken)
}

// P11.2: strings, of all bytes but what ends them.
func TestStrings(t *testing.T) {
	for _, x := range []struct {
		kind         int
		quote, other string
	}{{api.WordText, "'", `"`}, {api.WordMixed, `"`, "'"}} {
		q := x.quote
		for _, s := range append(allBytes(), "", "a", "\n", "a\nb\n\n", "\r\n", x.other, x.other+x.other, "# no", "${y}", "$", "a${x}b$", "\\", "\\n", "1234567890", ";", "é", "日本", "\ufffd", "\xff\xfe", "\xc3", "\xe6\x97", "\x00", strings.Repeat("x", 30000)) {
			if s == q {
				continue
			}
			wantWords(t, q+s+q, word(x.kind, s, 0))
			wantWords(t, " "+q+s+q+"b", word(x.kind, s, 1), word(api.WordName, "b", len(s)+3))
			wantWords(t, q+s+q+q+q, word(x.kind, s, 0), word(x.kind, "", len(s)+2))
			wantFault(t, q+s, 0, api.ErrToken)
			wantFault(t, "a "+q+s, 2, api.ErrToken)
			wantFault(t, q+s+q+"\n"+q+s, len(s)+3, api.ErrToken)
		}
		wantFault(t, q, 0, api.ErrToken)
		wantFault(t, q+q+q, 2, api.ErrToken)
		wantFault(t, q+x.other, 0, api.ErrToken)
		wantFault(t, q+"\\"+q+q, 3, api.ErrToken) // nothing takes a quote's meaning away
		wantFault(t, q+x.other+q+x.other, 3, api.ErrToken)
		wantFault(t, q+"\xc3", 0, api.ErrToken)
	}
	wantWords(t, `'a'"b"'c'`, word(api.WordText, "a", 0), word(api.WordMixed, "b", 3), word(api.WordText, "c", 6))
	wantWords(t, `'"' "'"`, word(api.WordText, `"`, 0), word(api.WordMixed, "'", 4))
}

// P11.2: 1 to 9 digits are a number, whatever is behind them; ten or more are none.
func TestNumbers(t *testing.T) {
	digits := strings.Repeat("9081726354", 30)
	for n := 1; n <= 9; n++ {
		for at := range 10 {
			s := digits[at : at+n]
			wantWords(t, s, word(api.WordNumber, s, 0))
			wantWords(t, "a "+s+"b", word(api.WordName, "a", 0), word(api.WordNumber, s, 2), word(api.WordName, "b", n+2))
			wantWords(t, s+"A", word(api.WordNumber, s, 0), word(api.WordType, "A", n))
			wantWords(t, s+" "+s, word(api.WordNumber, s, 0), word(api.WordNumber, s, n+1))
			wantWords(t, s+"#1\n"+s, word(api.WordNumber, s, 0), word(api.WordNumber, s, n+3))
			wantFault(t, s+"_", n, api.ErrToken)
			wantFault(t, s+".5", n, api.ErrToken)
		}
	}
	for _, n := range []int{10, 11, 18, 19, 20, 27, 90, 300} {
		s := digits[:n]
		wantFault(t, s, 0, api.ErrToken)
		wantFault(t, s+"a", 0, api.ErrToken)
		wantFault(t, "a 1 "+s+" b", 4, api.ErrToken)
		wantFault(t, "A:"+s, 2, api.ErrToken)
		wantFault(t, s+" ;", 0, api.ErrToken)
	}
	wantWords(t, "0", word(api.WordNumber, "0", 0))
	wantWords(t, "000000000", word(api.WordNumber, "000000000", 0))
	wantFault(t, "0000000000", 0, api.ErrToken)
	wantFault(t, strings.Repeat("0", 65536), 0, api.ErrToken)
	wantFault(t, "-1", 0, api.ErrToken)
	wantFault(t, "+1", 0, api.ErrToken)
	wantFault(t, "１", 0, api.ErrToken)
	wantFault(t, "٣", 0, api.ErrToken)
}

// P11.2: each sign, the longest one where several begin.
func TestSigns(t *testing.T) {
	signs := []string{"{", "}", "(", ")", "[", "]", ",", ":", "=", "!", "=>", "==", "!=", "->", "~>"}
	for _, s := range signs {
		wantWords(t, s, word(api.WordSign, s, 0))
		wantWords(t, " "+s+"a", word(api.WordSign, s, 1), word(api.WordName, "a", len(s)+1))
		for _, x := range signs {
			wantWords(t, s+" "+x, word(api.WordSign, s, 0), word(api.WordSign, x, len(s)+1))
		}
	}
	for text, want := range map[string][]string{
		"===": {"==", "="}, "====": {"==", "=="}, "===>": {"==", "=>"}, "=>=": {"=>", "="}, "=>=>": {"=>", "=>"},
		"!!": {"!", "!"}, "!!=": {"!", "!="}, "!==": {"!=", "="}, "!===": {"!=", "=="}, "!==>": {"!=", "=>"}, "=!": {"=", "!"}, "=!=": {"=", "!="}, "=->": {"=", "->"}, "!~>": {"!", "~>"},
		"->->": {"->", "->"}, "~>->": {"~>", "->"}, "->=": {"->", "="}, "~>=>": {"~>", "=>"}, "::": {":", ":"}, ":=": {":", "="}, ":=>": {":", "=>"},
		"{}": {"{", "}"}, "([{}])": {"(", "[", "{", "}", "]", ")"}, ",,": {",", ","}, "{=>": {"{", "=>"}, "= =": {"=", "="}, "! =": {"!", "="}, "=#\n=>": {"=", "=>"},
	} {
		l, at, e := lexer.Lex(text)
		var got []string
		for _, w := range l {
			got = append(got, w.Text)
		}
		if e != api.OK || at != 0 || !slices.Equal(got, want) {
			t.Errorf("Lex(%q): %v, %d, %d; want %q", text, l, at, e, want)
		}
		wantModel(t, text)
	}
	// '-' and '~' alone, '=' ahead of '=>', '!' ahead of '=>', and '>' are no signs, or leave none.
	for text, at := range map[string]int{"-": 0, "~": 0, ">": 0, "--": 0, "-~>": 0, "~->": 0, "- >": 0, "~ >": 0, "-=": 0, "~=": 0, "a -": 2, "a ~": 2, "==>": 2, "!=>": 2, "=>>": 2, "->>": 2, "= >": 2, ">=": 0, "<-": 0, "=-": 1, "=~": 1, "!~": 1, "-\n>": 0, "~#\n>": 0} {
		wantFault(t, text, at, api.ErrToken)
	}
}

// P11.2: bytes that begin no word, those above 127 among them, alone and behind each kind of words.
func TestWrongBytes(t *testing.T) {
	begin := "\t\n\r #$'\"{}()[],:=!-~abcdefghijklmnopqrstuvwxyzABCDEFGHIJKLMNOPQRSTUVWXYZ0123456789"
	for _, b := range allBytes() {
		if strings.Contains(begin, b) {
			continue
		}
		wantFault(t, b, 0, api.ErrToken)
		wantFault(t, b+"a", 0, api.ErrToken)
		wantFault(t, "# x\n "+b+b, 5, api.ErrToken)
		wantFault(t, "a::b "+b, 5, api.ErrToken)
		for _, s := range []string{"A", "$a1", "''", "\"\n\"", "12", "{", "=>", "==", "->"} {
			if b != ">" && b != "_" {
				wantFault(t, s+b, len(s), api.ErrToken)
			}
			wantFault(t, s+" "+b+" a", len(s)+1, api.ErrToken)
		}
	}
	for _, s := range []string{"é", "É", "日本", "\u00a0", "\ufffd", "𝒶", "\xc3", "\xe6\x97", "\xf0\x9d\x92", "\xed\xa0\x80", "\xc0\xa0", "\xc1\xa1"} {
		wantFault(t, s, 0, api.ErrToken)
		wantFault(t, "a "+s+" b", 2, api.ErrToken)
		wantFault(t, "a"+s, 1, api.ErrToken)
		wantFault(t, "'"+s+"'"+s, len(s)+2, api.ErrToken)
		wantFault(t, "#"+s+"\n"+s, len(s)+2, api.ErrToken)
	}
}

// P11.2: the first place at which no word begins is told, and no words beside it.
func TestFirstFault(t *testing.T) {
	wantFault(t, "a b ; c ; 'd", 4, api.ErrToken)
	wantFault(t, "a 'b ; c", 2, api.ErrToken)
	wantFault(t, "a 'b ; c' ;", 10, api.ErrToken)
	wantFault(t, "; 'a", 0, api.ErrToken)
	wantFault(t, "1234567890 ; '", 0, api.ErrToken)
	wantFault(t, "a\n\n\tb $", 6, api.ErrToken)
	for n := range 300 {
		wantFault(t, strings.Repeat("a ", n)+"\xff", 2*n, api.ErrToken)
		wantFault(t, strings.Repeat("'é'", n)+"$", 4*n, api.ErrToken)
	}
}

// P11.2: Lex asks for no fewer words than a text may have, nor for shorter ones.
func TestMany(t *testing.T) {
	var want []api.Word
	for i := range 20000 {
		want = append(want, word(api.WordName, "if", 3*i))
	}
	wantWords(t, strings.Repeat("if\n", 20000), want...)
}

// P11.2: what was answered belongs to the caller: what becomes of it is nothing to later calls.
func TestOwn(t *testing.T) {
	text := "file { '/a': mode => \"${m}\" }"
	first, _, _ := lexer.Lex(text)
	clear(first)
	_ = append(first[:2], word(api.WordSign, "!", 9))
	wantModel(t, text)
	second, _, _ := lexer.Lex(text)
	third, _, _ := lexer.Lex(text)
	clear(second)
	if want, _, _ := model(text); !slices.Equal(third, want) {
		t.Errorf("the words of another call changed: %v", third)
	}
}
