package value_test

import (
	"regexp"
	"slices"
	"strconv"
	"strings"
	"testing"

	"majordomo/api"
)

// outcome is what an expression comes to by the model: a string, an int or a bool; nil if there is an error.
type outcome struct {
	v     any
	steps int
	e     api.Errno
}

// anyOf is a value as the model has it.
func anyOf(v api.Value) any {
	switch v.Kind {
	case api.ValText:
		return v.Text
	case api.ValNumber:
		return v.N
	}
	return v.Yes
}

func valueOf(v any) api.Value {
	switch v := v.(type) {
	case string:
		return txt(v)
	case int:
		return num(v)
	case bool:
		return yes(v)
	}
	return api.Value{}
}

func say(v any) string {
	switch v := v.(type) {
	case string:
		return v
	case int:
		return strconv.Itoa(v)
	}
	return strconv.FormatBool(v.(bool))
}

// known is a list of variables as a map, in which the first one of a name stands.
func known(env []api.Bind) map[string]any {
	m := map[string]any{}
	for i := len(env) - 1; i >= 0; i-- {
		m[env[i].Name] = anyOf(env[i].V)
	}
	return m
}

var opened = regexp.MustCompile(`\$\{(?:([a-z][a-z0-9_]*)\})?`)

// modelMixed looks for each ${, with a name and } behind it or not.
func modelMixed(s string, m map[string]any) outcome {
	e := api.OK
	s = opened.ReplaceAllStringFunc(s, func(found string) string {
		v, is := m[strings.Trim(found, "${}")]
		switch {
		case e != api.OK:
		case found == "${":
			e = api.ErrValue
		case !is:
			e = api.ErrVar
		default:
			return say(v)
		}
		return ""
	})
	if e == api.OK && len(s) > 512 {
		e = api.ErrLong
	}
	if e != api.OK {
		return outcome{e: e}
	}
	return outcome{s, 1, api.OK}
}

// model evaluates all that is below a node first, and afterwards asks what of it counts.
func model(a api.Arena, i int, m map[string]any) outcome {
	n := a.N[i]
	var l []outcome
	for _, k := range n.L {
		l = append(l, model(a, k, m))
	}
	switch n.Kind {
	case api.TreeText:
		if len(n.Text) > 512 {
			return outcome{e: api.ErrLong}
		}
		return outcome{n.Text, 1, api.OK}
	case api.TreeMixed:
		return modelMixed(n.Text, m)
	case api.TreeNumber:
		v := 0
		for _, c := range n.Text {
			v = 10*v + int(c-'0')
		}
		return outcome{v, 1, api.OK}
	case api.TreeVar:
		v, is := m[n.Text]
		if !is {
			return outcome{e: api.ErrVar}
		}
		return outcome{v, 1, api.OK}
	case api.TreeTrue:
		return outcome{true, 1, api.OK}
	case api.TreeFalse:
		return outcome{false, 1, api.OK}
	case api.TreeNot:
		b, is := l[0].v.(bool)
		return combined(l, is, !b)
	}
	switch n.Text {
	case "==":
		return combined(l, true, l[0].v == l[1].v)
	case "!=":
		return combined(l, true, l[0].v != l[1].v)
	}
	first, is := l[0].v.(bool)
	if !is || first == (n.Text == "or") {
		return combined(l[:1], is, first)
	}
	second, is := l[1].v.(bool)
	return combined(l, is, second)
}

// combined is the first error of those below, or that their kinds are wrong, or the value.
func combined(l []outcome, kinds bool, v bool) outcome {
	steps := 1
	for _, o := range l {
		if o.e != api.OK {
			return outcome{e: o.e}
		}
		steps += o.steps
	}
	if !kinds {
		return outcome{e: api.ErrValue}
	}
	return outcome{v, steps, api.OK}
}

// wantModel asks for what the model says of each node that is a value.
func wantModel(t *testing.T, a api.Arena, env []api.Bind) {
	t.Helper()
	m := known(env)
	for i, n := range a.N {
		if n.Kind < api.TreeText {
			wantEval(t, a, i, env, api.Value{}, 0, api.ErrArg)
			continue
		}
		o := model(a, i, m)
		wantEval(t, a, i, env, valueOf(o.v), o.steps, o.e)
	}
}

// P14.2: all short texts of some pieces.
func TestMixedShort(t *testing.T) {
	t.Parallel()
	pieces := []string{"$", "{", "}", "x", "1", "_", "X", ":", "é", "\xff", " "}
	env := []api.Bind{bind("x", txt("v$")), bind("x1", num(-5)), bind("x_", yes(true)), bind("x", num(3))}
	m := known(env)
	var ask func(s string, more int)
	ask = func(s string, more int) {
		o := modelMixed(s, m)
		want, _ := o.v.(string)
		wantMixed(t, s, env, want, o.e)
		if more > 0 {
			for _, p := range pieces {
				ask(s+p, more-1)
			}
		}
	}
	ask("", 4)
	for _, s := range []string{"${", "${x", "${x}", "${y}", "${x1}", "$${x_}${", "é${", "\xff$"} {
		ask(s, 3)
	}
}

// P14.2: long texts of dice, around 512 bytes.
func TestMixedDice(t *testing.T) {
	t.Parallel()
	d := dice(142)
	counts := map[api.Errno]int{}
	for range 20000 {
		var env []api.Bind
		for range d.below(6) {
			v := []api.Value{txt(strings.Repeat("é", d.below(120))), num(d.below(1000) - 500), yes(d.below(2) == 0)}
			env = append(env, bind(d.of("a", "b", "c_1"), v[d.below(3)]))
		}
		var b strings.Builder
		for range d.below(10) {
			b.WriteString(strings.Repeat(d.of("$", "x", "é", "\xff", "}", "$$", "a b"), d.below(50)))
			b.WriteString(d.of("${a}", "${b}", "${c_1}", "${a}${b}", "$", ""))
		}
		s := b.String()
		if d.below(4) == 0 {
			at := d.below(len(s) + 1)
			s = s[:at] + d.of("${", "${}", "${no}", "}") + s[at:]
		}
		o := modelMixed(s, known(env))
		want, _ := o.v.(string)
		wantMixed(t, s, env, want, o.e)
		counts[o.e]++
	}
	for _, e := range []api.Errno{api.OK, api.ErrLong, api.ErrVar, api.ErrValue} {
		if counts[e] < 500 {
			t.Errorf("error %d: %d texts", e, counts[e])
		}
	}
}

// level is the expressions that have these below them, each in each place, and these.
func level(l []part) []part {
	out := l
	for _, p := range l {
		out = append(out, above(api.TreeNot, "", p))
	}
	for _, p := range l {
		for _, q := range l {
			for _, op := range []string{"==", "!=", "and", "or"} {
				out = append(out, above(api.TreeOp, op, p, q))
			}
		}
	}
	return out
}

// P14.3: all expressions of three levels above a few leaves.
func TestEvalShort(t *testing.T) {
	t.Parallel()
	leaves := []part{above(api.TreeText, "1"), above(api.TreeNumber, "1"), above(api.TreeVar, "t"), above(api.TreeFalse, ""), above(api.TreeVar, "no"), above(api.TreeMixed, "${")}
	env := []api.Bind{bind("t", yes(true)), bind("t", num(1))}
	m := known(env)
	for _, p := range level(level(leaves)) {
		a, i := set(p)
		o := model(a, i, m)
		wantEval(t, a, i, env, valueOf(o.v), o.steps, o.e)
	}
}

// P14.3: each value of manifests, wherever it stands.
func TestEvalWhere(t *testing.T) {
	t.Parallel()
	for _, text := range []string{
		"class base { service { 'ssh': } } file { '/etc/motd': content => \"${s} ${n}\" } include base File['/etc/motd'] ~> Service['ssh']",
		"define web::site($port = 123456789, $x) { a::b { \"x\ny\": if => $n, b => !$t == (1 or 2) } } Web_1['t'] -> A[1] ~> B[$no]",
		"if $n == 12 and !!$t { include a } else { class c() { $s = '\n' } } $z = false or true != true class d($p) { if 1 { } }",
	} {
		wantModel(t, parse(t, text), vars())
		wantModel(t, parse(t, text), nil)
	}
}

// value is an expression by dice, of no more than so many levels.
func (d *dice) value(levels int) part {
	if levels > 1 && d.below(4) > 0 {
		if d.below(4) == 0 {
			return above(api.TreeNot, "", d.value(levels-1))
		}
		return above(api.TreeOp, d.of("==", "!=", "and", "or", "==", "!="), d.value(levels-1), d.value(levels-1))
	}
	switch d.below(9) {
	case 0:
		return above(api.TreeText, d.of("", "abc", "12", "true", "${n}"))
	case 1:
		return above(api.TreeMixed, d.of("", "${s}", "${n}", "${t}", "$${e}", "${n}${m}"))
	case 2:
		return above(api.TreeNumber, d.of("0", "012", "12", "3"))
	case 3, 4:
		return above(api.TreeVar, d.of("s", "n", "t", "f", "e", "m"))
	case 5:
		switch d.below(20) {
		case 0:
			return above(api.TreeVar, "no")
		case 1:
			return above(api.TreeMixed, d.of("${", "${no}", strings.Repeat("a", 513)))
		case 2:
			return above(api.TreeText, strings.Repeat("a", 513))
		}
	}
	return above(api.TreeTrue+d.below(2), "")
}

// expression is one by dice, and its variables.
func (d *dice) expression() (a api.Arena, i int) {
	a, i = set(d.value(2 + d.below(6)))
	return a, i
}

// P14.3: larger expressions by dice.
func TestEvalDice(t *testing.T) {
	t.Parallel()
	d := dice(14)
	counts, spared := map[api.Errno]int{}, 0
	for range 5000 {
		a, i := d.expression()
		o := model(a, i, known(vars()))
		wantEval(t, a, i, vars(), valueOf(o.v), o.steps, o.e)
		counts[o.e]++
		if o.e == api.OK && o.steps < len(a.N)-2 {
			spared++
		}
		if len(a.N) < 30 {
			wantModel(t, a, vars())
		}
	}
	if counts[api.OK] < 1000 || counts[api.ErrValue] < 500 || counts[api.ErrVar] < 50 || counts[api.ErrLong] < 50 || spared < 300 {
		t.Errorf("errors: %v; %d spared something", counts, spared)
	}
}

// named is the variables that an expression names.
func named(a api.Arena) map[string]bool {
	m := map[string]bool{}
	for _, n := range a.N {
		switch n.Kind {
		case api.TreeVar:
			m[n.Text] = true
		case api.TreeMixed:
			for _, found := range opened.FindAllStringSubmatch(n.Text, -1) {
				m[found[1]] = true
			}
		}
	}
	return m
}

// P14.4: a value hangs on the variables alone that its expression names: others may be there, be others, stand elsewhere, or not be there.
func TestNamedAlone(t *testing.T) {
	t.Parallel()
	d := dice(144)
	for range 3000 {
		a, i := d.expression()
		o := model(a, i, known(vars()))
		m := named(a)
		var few, more []api.Bind
		for _, b := range vars() {
			if m[b.Name] {
				few = append(few, b)
			}
		}
		for _, name := range []string{"zz", "s1", "", "s", "n", "t", "f", "e", "m", "S", "a::b"} {
			if !m[name] {
				more = append(more, bind(name, []api.Value{txt("other"), num(77), yes(true), yes(false), {}}[d.below(5)]))
			}
		}
		for _, env := range [][]api.Bind{few, slices.Concat(more, few), slices.Concat(few, more), slices.Concat(more, vars())} {
			wantEval(t, a, i, env, valueOf(o.v), o.steps, o.e)
		}
	}
}

// P14.4: nor does it hang on what was asked before.
func TestAgain(t *testing.T) {
	a := parse(t, "$z = \"${s}\" == 'abc' and !$f")
	for range 3 {
		wantEval(t, a, len(a.N)-3, vars(), yes(true), 6, api.OK)
		wantEval(t, a, len(a.N)-3, []api.Bind{bind("s", num(1))}, yes(false), 4, api.OK)
		wantFault(t, "$s", nil, api.ErrVar)
		wantMixed(t, "${s}", vars(), "abc", api.OK)
		wantMixed(t, "${s}", []api.Bind{bind("s", num(1))}, "1", api.OK)
	}
}
