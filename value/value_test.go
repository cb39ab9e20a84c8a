package value_test

import (
	"math"
	"testing"

	"majordomo/api"
	"majordomo/value"
)

// P14.1: a value of each kind as a text, whatever stands in the fields of the other kinds.
func TestStr(t *testing.T) {
	for _, c := range []struct {
		v    api.Value
		want string
	}{
		{txt(""), ""},
		{txt("a"), "a"},
		{txt("true"), "true"},
		{txt("a\x00\xff\n${b}'\""), "a\x00\xff\n${b}'\""},
		{num(0), "0"},
		{num(7), "7"},
		{num(-7), "-7"},
		{num(10), "10"},
		{num(-10), "-10"},
		{num(999999999), "999999999"},
		{num(math.MaxInt64), "9223372036854775807"},
		{num(math.MinInt64), "-9223372036854775808"},
		{num(math.MinInt64 + 1), "-9223372036854775807"},
		{yes(true), "true"},
		{yes(false), "false"},
		{api.Value{Kind: api.ValText, Text: "a", N: 5, Yes: true}, "a"},
		{api.Value{Kind: api.ValNumber, Text: "a", N: 5, Yes: true}, "5"},
		{api.Value{Kind: api.ValBool, Text: "a", N: 5, Yes: true}, "true"},
		{api.Value{Kind: api.ValBool, Text: "a", N: 5}, "false"},
	} {
		if s := value.Str(c.v); s != c.want {
			t.Errorf("Str(%+v): %q; want %q", c.v, s, c.want)
		}
	}
}

// none is kinds of which no value is.
func none() []int { return []int{0, 4, 5, -1, -3, 1 << 40, math.MinInt64, math.MaxInt64} }

// P14.1: a value of any other kind is the empty text, whatever its fields are.
func TestStrOfNone(t *testing.T) {
	for _, k := range none() {
		for _, v := range []api.Value{{Kind: k}, {Kind: k, Text: "a"}, {Kind: k, N: 1}, {Kind: k, Yes: true}, {Kind: k, Text: "a", N: -1, Yes: true}} {
			if s := value.Str(v); s != "" {
				t.Errorf("Str(%+v): %q", v, s)
			}
		}
	}
}

// P14.1: two values are the same if they are of one kind, which is one, and have the same in its field: whatever the other fields have.
func TestSame(t *testing.T) {
	texts, numbers := []string{"", "a", "b", "ab", "A", "1", "true", "\x00"}, []int{0, 1, -1, 2, math.MaxInt64, math.MinInt64}
	var l []api.Value
	for kind := range 5 {
		for _, s := range texts {
			for _, n := range numbers {
				l = append(l, api.Value{Kind: kind, Text: s, N: n}, api.Value{Kind: kind, Text: s, N: n, Yes: true})
			}
		}
	}
	for _, a := range l {
		for _, b := range l {
			want := a.Kind == b.Kind && (a.Kind == 1 && a.Text == b.Text || a.Kind == 2 && a.N == b.N || a.Kind == 3 && a.Yes == b.Yes)
			if value.Same(a, b) != want {
				t.Fatalf("Same(%+v, %+v): %v", a, b, !want)
			}
		}
	}
}

// P14.1: values of no kind are not the same, not even as themselves.
func TestSameOfNone(t *testing.T) {
	for _, k := range none() {
		for _, v := range []api.Value{{Kind: k}, {Kind: k, Text: "a", N: 1, Yes: true}} {
			if value.Same(v, v) || value.Same(v, txt("a")) || value.Same(num(1), v) || value.Same(v, yes(true)) {
				t.Errorf("Same(%+v): true", v)
			}
		}
	}
	if value.Same(txt("1"), num(1)) || value.Same(txt("true"), yes(true)) || value.Same(num(0), yes(false)) || value.Same(txt(""), yes(false)) {
		t.Error("values of two kinds are the same")
	}
}
