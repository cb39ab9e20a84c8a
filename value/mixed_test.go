package value_test

import (
	"math"
	"strings"
	"testing"

	"majordomo/api"
	"majordomo/value"
)

// P14.2: texts without variables stay as they are.
func TestMixedPlain(t *testing.T) {
	for _, s := range []string{
		"", "a", "a b\n", "$", "$$", "$$$", "a$", "$a", "$x", "$ {x}", "{x}", "{$x}", "}", "{}", "{", "$}", "$}{", "a$b$", "$1", "$\xff{x}", "é$é", "\xc3", "\xff\xfe$", "\x00", "\xed\xa0\x80", "\xef\xbf\xbd",
		"$\n{x}", "'", "\"", "{{}}$", strings.Repeat("$", 512), strings.Repeat("\xff", 512),
	} {
		wantMixed(t, s, nil, s, api.OK)
		wantMixed(t, s, []api.Bind{}, s, api.OK)
		wantMixed(t, s, vars(), s, api.OK)
	}
}

// P14.2: variables, of each kind, alone and among what else there is.
func TestMixedVariables(t *testing.T) {
	env := append(vars(), bind("x", txt("1")), bind("x1_y", txt("long")), bind("if", txt("word")), bind("z9", num(math.MinInt64)))
	for s, want := range map[string]string{
		"${s}": "abc", "${n}": "12", "${m}": "-3", "${t}": "true", "${f}": "false", "${e}": "", "${z9}": "-9223372036854775808", "${x1_y}": "long", "${if}": "word",
		"a${n}b$": "a12b$", "$${x}$": "$1$", "${s}${n}": "abc12", "${n}${n}${n}": "121212", "${e}${e}": "", "-${s}-${n}-": "-abc-12-", "{${n}}": "{12}", "${n}}": "12}", "$$${n}": "$$12",
		"\xff${n}\xfe": "\xff12\xfe", "é${s}é": "éabcé", "\xc3${n}\xa9": "\xc312\xa9", "${n}\x00": "12\x00", "${n}{x}": "12{x}", "${n}$": "12$", "${n}$x": "12$x", "a\n${n}\nb": "a\n12\nb", "'${n}'": "'12'",
	} {
		wantMixed(t, s, env, want, api.OK)
	}
}

// P14.2: what a variable stands for is not looked through again.
func TestMixedOnce(t *testing.T) {
	env := []api.Bind{bind("a", txt("${b}")), bind("b", txt("$")), bind("c", txt("${")), bind("d", txt("\xff\"'\x00"))}
	wantMixed(t, "${a}", env, "${b}", api.OK)
	wantMixed(t, "${b}{a}", env, "${a}", api.OK)
	wantMixed(t, "$${b}{b}", env, "$${b}", api.OK)
	wantMixed(t, "${c}b}${a}", env, "${b}${b}", api.OK)
	wantMixed(t, "${d}", env, "\xff\"'\x00", api.OK)
}

// P14.2: the first of two variables of one name counts; Names are compared whole; those that no text can name do no harm; a value of no kind is the empty text.
func TestMixedList(t *testing.T) {
	env := []api.Bind{bind("", txt("none")), bind("X", txt("great")), bind("xx", txt("longer")), bind("x", num(1)), bind("x", num(2)), bind("a::b", txt("parts")), bind("a", api.Value{Kind: 7, Text: "t", N: 1, Yes: true}), bind("x", txt("3"))}
	wantMixed(t, "${x}", env, "1", api.OK)
	wantMixed(t, "<${x}${xx}${a}>", env, "<1longer>", api.OK)
	wantMixed(t, "${a}", env[:6], "", api.ErrVar)
	wantMixed(t, "${xxx}", env, "", api.ErrVar)
	wantMixed(t, "${x}", env[:3], "", api.ErrVar)
	wantMixed(t, "${x}", env[4:], "2", api.OK)
}

// P14.2: there is no such variable.
func TestMixedUnknown(t *testing.T) {
	for _, s := range []string{"${no}", "a${no}", "${no}a", "$${no}", "${n}${no}", "${no}${n}", "${nn}", "${n1}", "${s_}", "${true}"} {
		wantMixed(t, s, vars(), "", api.ErrVar)
		wantMixed(t, s, nil, "", api.ErrVar)
	}
}

// P14.2: a ${ that is not continued.
func TestMixedBroken(t *testing.T) {
	env := append(vars(), bind("", txt("a")), bind("a::b", txt("a")), bind("N", txt("a")), bind("1", txt("a")), bind("_n", txt("a")), bind(" n", txt("a")), bind("n ", txt("a")), bind("é", txt("a")), bind("$n", txt("a")), bind("{n", txt("a")))
	for _, s := range []string{
		"${", "a${", "${}", "${n", "${ n}", "${n }", "${N}", "${nN}", "${1}", "${1n}", "${_n}", "${a::b}", "${a:b}", "${n::}", "${::n}", "${:n}", "${é}", "${né}", "${n\xff}", "${\xff}", "${n\x00}", "${n\n}", "${n-n}", "${n.n}",
		"${$n}", "${${n}}", "${{n}}", "${n${n}", "$${", "${n}${", "${n}${}", "${n${", "${n{}", "${n$}", "${'n'}", "${n]", "${a::b", "${\xc3}",
	} {
		wantMixed(t, s, env, "", api.ErrValue)
		wantMixed(t, "x"+s, env, "", api.ErrValue)
		wantMixed(t, "${n}"+s, env, "", api.ErrValue)
	}
}

// P14.2: of two errors the one that stands first counts.
func TestMixedFirstError(t *testing.T) {
	wantMixed(t, "${no}${", vars(), "", api.ErrVar)
	wantMixed(t, "${no}${}", vars(), "", api.ErrVar)
	wantMixed(t, "${no}a${N}", vars(), "", api.ErrVar)
	wantMixed(t, "${${no}", vars(), "", api.ErrValue)
	wantMixed(t, "${}${no}", vars(), "", api.ErrValue)
	wantMixed(t, "${N}${no}", vars(), "", api.ErrValue)
	wantMixed(t, "${n}${no}${n}${", vars(), "", api.ErrVar)
	wantMixed(t, "${n}${no", vars(), "", api.ErrValue)
	wantMixed(t, "${n}${n::no}${no}", vars(), "", api.ErrValue)
}

// P14.2: a result of 512 bytes is answered, one of 513 is not, however it comes about; the other errors count first, wherever they stand.
func TestMixedLong(t *testing.T) {
	a := func(n int) string { return strings.Repeat("a", n) }
	env := []api.Bind{bind("x", txt(a(256))), bind("y", txt(a(512))), bind("z", txt(a(513))), bind("e", txt("")), bind("n", num(-12))}
	for s, size := range map[string]int{
		a(512): 512, a(513): 513, "${y}": 512, "${z}": 513, "${x}${x}": 512, "${x}${x}a": 513, "a${x}${x}": 513, "${x}" + a(256): 512, a(256) + "${x}": 512, a(257) + "${x}": 513, "${x}a${x}": 513,
		"${y}${e}": 512, "${e}${y}": 512, "${y}$": 513, "$${y}": 513, a(509) + "${n}": 512, a(510) + "${n}": 513, a(512) + "${e}": 512, a(513) + "${e}": 513, strings.Repeat("${e}", 1000): 0, strings.Repeat("${n}", 170): 510, strings.Repeat("${n}", 171): 513,
		"${z}${z}": 1026, a(100000): 100000, "${z}${e}": 513, "${z}" + a(3): 516,
	} {
		if size > api.MaxText {
			wantMixed(t, s, env, "", api.ErrLong)
			for _, more := range []string{"${no}", "a${no}", "${no}${"} {
				wantMixed(t, s+more, env, "", api.ErrVar)
				wantMixed(t, more+s, env, "", api.ErrVar)
			}
			for _, more := range []string{"${}", "a${", "${N}${no}"} {
				wantMixed(t, s+more, env, "", api.ErrValue)
			}
			wantMixed(t, "${}"+s, env, "", api.ErrValue)
			continue
		}
		got, e := value.Mixed(s, env)
		if len(got) != size || e != api.OK {
			t.Errorf("Mixed(%.80q): %d bytes, error %d; want %d bytes", s, len(got), e, size)
		}
	}
	// Bytes are counted, not runes.
	wantMixed(t, strings.Repeat("é", 256), nil, strings.Repeat("é", 256), api.OK)
	wantMixed(t, strings.Repeat("é", 256)+"a", nil, "", api.ErrLong)
}

// R1: a text that would be far longer than any memory ends like any other.
func TestMixedHuge(t *testing.T) {
	env := []api.Bind{bind("x", txt(strings.Repeat("a", 1<<20)))}
	s := strings.Repeat("${x}", 100000)
	wantMixed(t, s, env, "", api.ErrLong)
	wantMixed(t, s+"${", env, "", api.ErrValue)
	wantMixed(t, s+"${y}", env, "", api.ErrVar)
	wantMixed(t, strings.Repeat("$", 1<<20)+"{", env, "", api.ErrValue)
	wantMixed(t, strings.Repeat("${", 1<<20), env, "", api.ErrValue)
	wantMixed(t, "${"+strings.Repeat("x", 1<<20)+"}", env, "", api.ErrVar)
}
