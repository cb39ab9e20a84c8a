package layout

import (
	"slices"
	"strings"
	"testing"

	"majordomo/api"
)

// badNames is texts that are no names: each for one reason.
func badNames() []string {
	l := []string{"", ".", "..", strings.Repeat("a", 29), strings.Repeat("a", 100000), "a/b", "/", "a b", "a\x00", "\x00", "é", "a\xff", "a\n", "a:", "~", "a*"}
	return append(l, "@", "[", "`", "{", "/a", ":", ",", "^")
}

func wantPath(t *testing.T, s string, want ...string) {
	t.Helper()
	if l, e := Path(s); e != api.OK || !slices.Equal(l, want) {
		t.Errorf("Path(%q): %q, %d; want %q", s, l, e, want)
	}
}

func wantNoPath(t *testing.T, s string) {
	t.Helper()
	if l, e := Path(s); e != api.ErrPath || l != nil {
		t.Errorf("Path(%q): %q, %d; want ErrPath", s, l, e)
	}
}

// P3.5: names, and texts that are none.
func TestName(t *testing.T) {
	for _, s := range []string{"a", "Z", "0", "9", "-", "_", "...", "....", ".a", "a.", "..a", "._-", "-.", "ABCDEFGHIJKLMNOPQRSTUVWXYZ", "abcdefghijklmnopqrstuvwxyz", "0123456789", strings.Repeat("a", 28), strings.Repeat(".", 28)} {
		if !Name(s) {
			t.Errorf("Name(%q): false", s)
		}
	}
	for _, s := range badNames() {
		if Name(s) {
			t.Errorf("Name(%q): true", s)
		}
	}
}

// P3.5: every byte, alone and in each place of a name.
func TestNameBytes(t *testing.T) {
	good := "ABCDEFGHIJKLMNOPQRSTUVWXYZabcdefghijklmnopqrstuvwxyz0123456789._-"
	for v := range 256 {
		c := string([]byte{byte(v)})
		want := strings.Contains(good, c)
		if Name(c) != (want && c != ".") {
			t.Errorf("Name(%q)", c)
		}
		for at := range 28 {
			s := strings.Repeat("x", at) + c + strings.Repeat("x", 27-at)
			if Name(s) != want {
				t.Errorf("Name(%q): %v", s, !want)
			}
		}
	}
}

// P3.6: the examples.
func TestPath(t *testing.T) {
	wantPath(t, "/")
	wantPath(t, "/a/b", "a", "b")
	for _, s := range []string{"a", "/a/", "//", "/.."} {
		wantNoPath(t, s)
	}
	wantPath(t, "/etc", "etc")
	wantPath(t, "/.a/.../b-_.c", ".a", "...", "b-_.c")
	wantPath(t, "/a/a/a", "a", "a", "a")
}

// P3.6: the edges: eight names, 28 bytes of a name, 120 bytes in all.
func TestPathEdges(t *testing.T) {
	wantPath(t, "/a/b/c/d/e/f/g/h", "a", "b", "c", "d", "e", "f", "g", "h")
	wantNoPath(t, "/a/b/c/d/e/f/g/h/i")
	wantNoPath(t, "/a/b/c/d/e/f/g/h/")
	a, b := strings.Repeat("a", 28), strings.Repeat("b", 29)
	wantPath(t, "/"+a, a)
	wantNoPath(t, "/"+b)
	wantNoPath(t, "/x/"+b+"/y")
	long := "/" + a + "/" + a + "/" + a + "/" + a
	wantPath(t, long+"/abc", a, a, a, a, "abc")
	wantNoPath(t, long+"/abcd")
	wantNoPath(t, long+"/"+a)
	wantNoPath(t, strings.Repeat("/", 100000))
	wantNoPath(t, strings.Repeat("/a", 50000))
}

// P3.6: each thing that makes a path refused, alone.
func TestPathRefuses(t *testing.T) {
	for _, s := range []string{"", "a", "a/b", " /a", "/a ", "/a//b", "//a", "/a/b/", "/.", "/a/.", "/a/..", "/a/../b", "/./a", "\\a", "/a\x00", "\x00", "/é"} {
		wantNoPath(t, s)
	}
	for _, name := range badNames() {
		if strings.Contains(name, "/") {
			continue
		}
		wantNoPath(t, "/"+name+"/a")
		wantNoPath(t, "/a/"+name)
		wantNoPath(t, "/a/"+name+"/b")
	}
}

// P3.6, P3.7: names that are joined are read back.
func TestJoinedNamesComeBack(t *testing.T) {
	for n := range 9 {
		var l []string
		s := ""
		for i := range n {
			l = append(l, strings.Repeat(string(rune('a'+i)), 1+i))
			s += "/" + l[i]
		}
		if n == 0 {
			s = "/"
		}
		wantPath(t, s, l...)
	}
}
