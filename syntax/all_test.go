package syntax_test

import (
	"slices"
	"testing"

	"majordomo/api"
)

// grow asks for what the document says of each beginning of a manifest of up to so many of the words, with each word of next behind it. It tells how many were manifests.
func grow(t *testing.T, l []api.Word, most int, alphabet, next []api.Word) int {
	t.Helper()
	manifests := 0
	for _, w := range next {
		longer := append(slices.Clip(l), w)
		if wantModel(t, longer) {
			manifests++
		}
		_, at, e, _ := model(longer)
		if e == api.ErrSyntax && at < len(longer) {
			// What stands behind the first word that can't be changes nothing.
			wantModel(t, append(longer, s("}"), n("include"), n("a")))
			continue
		}
		if len(longer) < most && slices.ContainsFunc(alphabet, func(x api.Word) bool { return x == w }) {
			manifests += grow(t, longer, most, alphabet, next)
		}
	}
	return manifests
}

// P12.1, P12.2: all short words, of all sorts.
func TestShort(t *testing.T) {
	t.Parallel()
	wantModel(t, nil)
	if got := grow(t, nil, 4, everything(), everything()); got < 100 {
		t.Errorf("%d manifests", got)
	}
	for _, x := range []struct {
		most int
		l    []api.Word
	}{
		{12, []api.Word{n("f"), n("if"), q("t"), s("{"), s("}"), s(":"), s(","), s("=>")}},
		{11, []api.Word{n("class"), n("a"), v("x"), s("{"), s("}"), s("("), s(")"), s(","), s("=")}},
		{9, []api.Word{n("if"), n("else"), n("true"), n("or"), s("{"), s("}"), s("!"), s("=="), n("include")}},
		{9, []api.Word{v("x"), s("="), n("or"), n("and"), s("=="), s("!="), s("("), s(")"), s("!")}},
		{13, []api.Word{ty("A"), q("t"), s("["), s("]"), s("->"), s("~>"), s("!")}},
		{10, []api.Word{n("define"), n("a"), v("x"), s("{"), s("}"), s("("), s(")"), s("="), s(",")}},
	} {
		if got := grow(t, nil, x.most, x.l, x.l); got < 20 {
			t.Errorf("%d manifests of %q", got, texts(x.l))
		}
	}
}

// manifests is texts that have each row of the grammar.
func manifests() []string {
	return []string{
		"class base { service { 'ssh': } } file { '/etc/motd': content => \"${node} ${fact_os}\" } include base File['/etc/motd'] ~> Service['ssh']",
		"define web::site($port = 123456789, $x) { a::b { \"x\": if => $port, b => !$x == (1 or 2) } } Web_1['t'] -> A[1] -> B[$x]",
		"if $x == 1 and !$y { include a } else { class c() { } } $z = false or true != true class d($p) { if 1 { } }",
	}
}

// P12.1, P12.2: words one word away from manifests.
func TestNear(t *testing.T) {
	t.Parallel()
	for _, text := range manifests() {
		l := cut(t, text)
		if !wantModel(t, l) {
			t.Errorf("%q is no manifest", text)
		}
		for at := range len(l) + 1 {
			wantModel(t, l[:at])
			for _, w := range everything() {
				wantModel(t, join(l[:at], []api.Word{w}, l[at:]))
				if at < len(l) {
					wantModel(t, join(l[:at], []api.Word{w}, l[at+1:]))
				}
			}
			if at < len(l) {
				wantModel(t, join(l[:at], l[at+1:]))
			}
		}
	}
}

// P12.1, P12.2: longer manifests by fixed dice, and words that a few steps of them spoil.
func TestDice(t *testing.T) {
	t.Parallel()
	d := dice(12)
	for range 1500 {
		var l []api.Word
		for range d.below(60) {
			can := follow(l, everything())
			l = append(l, can[d.below(len(can))])
		}
		l = ended(l)
		if !wantModel(t, l) {
			t.Errorf("%q is no manifest", texts(l))
		}
		for range 4 {
			wantModel(t, d.spoil(l))
		}
	}
}

// follow is those of the words with which a beginning of a manifest is one yet.
func follow(l, next []api.Word) []api.Word {
	m := &match{words: l}
	manifest(m, 0, func(int, []tree) {})
	return slices.DeleteFunc(slices.Clone(next), func(w api.Word) bool {
		return !slices.ContainsFunc(m.asked, func(is func(api.Word) bool) bool { return is(w) })
	})
}

// ended is a manifest that begins with these words: what closes most comes first.
func ended(l []api.Word) []api.Word {
	shortest := []api.Word{s("}"), s(")"), s("]"), s(":"), s("{"), s("="), s("=>"), q("t"), n("a"), v("x"), s("->"), ty("A"), s("[")}
	for {
		if _, _, e, _ := model(l); e != api.ErrSyntax {
			return l
		}
		l = append(l, follow(l, shortest)[0])
	}
}

// spoil is words one to three changes away.
func (d *dice) spoil(l []api.Word) []api.Word {
	all := everything()
	for range 1 + d.below(3) {
		from := d.below(len(l) + 1)
		to := min(len(l), from+d.below(2))
		l = join(l[:from], []api.Word{all[d.below(len(all))]}, l[to:])
	}
	return l
}
