package blockfs

import (
	"slices"
	"strings"
	"testing"

	"majordomo/api"
)

// grown is a tree with something of each kind.
func grown(t *testing.T) (*FS, plain) {
	t.Helper()
	_, f := made(t, 512)
	m := bare().steps(t, f, dir("/d"), file("/d/f", "bytes"), link("/d/l", "/d"), file("/empty", ""), link("/none", ""),
		dir("/d/e"), mode("/d/e", 0), mode("/d/f", 4095), file("/B", text(65)), file("/-", text(2432)), dir("/_"))
	return f, m
}

// P4.2: what is there, told by each call that tells it.
func TestStatReadList(t *testing.T) {
	f, m := grown(t)
	wantTree(t, f, m)
	for path, want := range map[string]api.Node{
		"/": {Kind: api.KindDir, Mode: 493, Size: 6}, "/d": {Kind: api.KindDir, Mode: 493, Size: 3}, "/d/e": {Kind: api.KindDir},
		"/d/f": {Kind: api.KindFile, Mode: 4095, Size: 5}, "/d/l": {Kind: api.KindLink, Size: 2}, "/empty": {Kind: api.KindFile, Mode: 420},
		"/none": {Kind: api.KindLink}, "/-": {Kind: api.KindFile, Mode: 420, Size: 2432},
	} {
		if s, e := f.Stat(path); e != api.OK || s != want {
			t.Errorf("Stat(%s): %v, %d; want %v", path, s, e, want)
		}
	}
	if l, e := f.List("/"); e != api.OK || !slices.Equal(l, []string{"-", "B", "_", "d", "empty", "none"}) {
		t.Errorf("List(/): %v, %d", l, e)
	}
	if b, e := f.Read("/d/l"); e != api.OK || string(b) != "/d" {
		t.Errorf("Read(/d/l): %q, %d", b, e)
	}
}

// wantNothing: each of the three calls answers this error, and nothing else.
func wantNothing(t *testing.T, f *FS, path string, want api.Errno) {
	t.Helper()
	if s, e := f.Stat(path); e != want || s != (api.Node{}) {
		t.Errorf("Stat(%q): %v, %d; want %d", path, s, e, want)
	}
	if b, e := f.Read(path); e != want || b != nil {
		t.Errorf("Read(%q): %v, %d; want %d", path, b, e, want)
	}
	if l, e := f.List(path); e != want || l != nil {
		t.Errorf("List(%q): %v, %d; want %d", path, l, e, want)
	}
}

// P4.2: each thing that makes a path refused, alone.
func TestPathsThatAreRefused(t *testing.T) {
	f, _ := grown(t)
	long := strings.Repeat("a", 28)
	for _, path := range []string{"", "d", "d/f", "//", "/d/", "//d", "/d//f", "/.", "/..", "/d/../d", "/d/./f", "/ü", "/a b", "/" + long + "a", "/a/b/c/d/e/f/g/h/i", "/" + long + "/" + long + "/" + long + "/" + long + "/abcd", "\x00"} {
		wantNothing(t, f, path, api.ErrPath)
	}
	for _, path := range []string{"/x", "/D", "/d/x", "/d/e/x", "/x/y/z", "/d/x/f", "/a/b/c/d/e/f/g/h", "/" + long, "/" + long + "/" + long + "/" + long + "/" + long + "/abc"} {
		wantNothing(t, f, path, api.ErrNoEntry)
	}
	for _, path := range []string{"/d/f/x", "/d/f/x/y", "/d/l/f", "/empty/x", "/none/x"} {
		wantNothing(t, f, path, api.ErrKind)
	}
}

// P4.2: the first thing that is wrong on the way is told: a text that is no path ahead of all, then name by name.
func TestOrderOfPathErrors(t *testing.T) {
	f, _ := grown(t)
	wantNothing(t, f, "/d/f/..", api.ErrPath)
	wantNothing(t, f, "/x/", api.ErrPath)
	wantNothing(t, f, "/d/f/x/y", api.ErrKind)
	wantNothing(t, f, "/d/x/f/y", api.ErrNoEntry)
}

// P4.2: a directory has no bytes; a file and a link have no names.
func TestOtherKind(t *testing.T) {
	f, _ := grown(t)
	for _, path := range []string{"/", "/d", "/d/e"} {
		if b, e := f.Read(path); e != api.ErrKind || b != nil {
			t.Errorf("Read(%s): %v, %d", path, b, e)
		}
	}
	for _, path := range []string{"/d/f", "/d/l", "/empty", "/none"} {
		if l, e := f.List(path); e != api.ErrKind || l != nil {
			t.Errorf("List(%s): %v, %d", path, l, e)
		}
	}
}

// P4.2, P4.4: calls that tell write nothing.
func TestTellingWritesNothing(t *testing.T) {
	f, m := grown(t)
	writes := f.d.Writes()
	wantTree(t, f, m)
	wantNothing(t, f, "/x", api.ErrNoEntry)
	f.Groups()
	if f.d.Writes() != writes {
		t.Errorf("%d writes", f.d.Writes()-writes)
	}
}

// P4.2, P4.4: while the power is off, what is told is what is there, or ErrPower; what has no error is told as ever.
func TestTellingWithoutPower(t *testing.T) {
	f, m := grown(t)
	groups := f.Groups()
	f.d.Fuse(0)
	f.d.Write(1, make([]byte, 64))
	for path, x := range m {
		if s, e := f.Stat(path); e != api.ErrPower && (e != api.OK || s != api.Node{Kind: x.kind, Mode: x.mode, Size: m.size(path)}) {
			t.Errorf("Stat(%s): %v, %d", path, s, e)
		}
		if b, e := f.Read(path); x.kind != api.KindDir && e != api.ErrPower && (e != api.OK || string(b) != x.bytes) {
			t.Errorf("Read(%s): %q, %d", path, b, e)
		}
		if l, e := f.List(path); x.kind == api.KindDir && e != api.ErrPower && (e != api.OK || !slices.Equal(l, m.names(path))) {
			t.Errorf("List(%s): %v, %d", path, l, e)
		}
	}
	if f.Count() != len(m) || f.Groups() != groups {
		t.Errorf("Count: %d, Groups: %d", f.Count(), f.Groups())
	}
	wantAudit(t, f, m)
}

// R7: what is answered is the caller's.
func TestAnswersShareNothing(t *testing.T) {
	f, m := grown(t)
	b, _ := f.Read("/d/f")
	clear(b)
	_ = append(b, 9, 9, 9)
	l, _ := f.List("/")
	clear(l)
	fixed, used, free := f.Audit()
	_ = append(fixed, 7)
	_ = append(used, 7)
	clear(fixed)
	clear(used)
	clear(free)
	wantTree(t, f, m)
	big, _ := f.Read("/B")
	_ = append(big, 1)
	wantKept(t, f.d, f, m)
}
