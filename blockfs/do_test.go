package blockfs

import (
	"bytes"
	"math"
	"slices"
	"strconv"
	"strings"
	"testing"

	"majordomo/api"
)

// wantRefused: Do answers this error, for the tree as it is; no block is written, and the tree stays.
func wantRefused(t *testing.T, f *FS, m plain, want api.Errno, l ...api.Edit) {
	t.Helper()
	writes, groups := f.d.Writes(), f.Groups()
	if e := f.Do(l); e != want {
		t.Errorf("Do(%v): %d; want %d", short(l), e, want)
	}
	if f.d.Writes() != writes || f.Groups() != groups {
		t.Errorf("Do(%v): %d blocks written", short(l), f.d.Writes()-writes)
	}
	wantTree(t, f, m)
}

// short is edits with few of their bytes, to be told.
func short(l []api.Edit) []api.Edit {
	var s []api.Edit
	for _, x := range l[:min(len(l), 4)] {
		x.Bytes = x.Bytes[:min(len(x.Bytes), 4)]
		s = append(s, x)
	}
	return s
}

// P4.3, P4.4: the examples.
func TestExamples(t *testing.T) {
	d, f := made(t, 512)
	wantDo(t, f, api.OK, dir("/a"), file("/a/f", text(65)))
	if f.Free() != 274 || f.Count() != 3 || f.Groups() != 1 {
		t.Error(f.Free(), f.Count(), f.Groups())
	}
	writes := d.Writes()
	wantDo(t, f, api.OK, file("/a/f", text(65)))
	if f.Groups() != 1 || d.Writes() != writes {
		t.Error(f.Groups())
	}
	wantDo(t, f, api.ErrNoEntry, gone("/a"), file("/b/c", ""))
	if s, e := f.Stat("/a"); e != api.OK || s.Kind != api.KindDir {
		t.Error(s, e)
	}
	wantDo(t, f, api.OK, gone("/a"))
	if f.Free() != 278 {
		t.Error(f.Free())
	}
}

// P4.3: what each kind of edit makes, and makes of what is there.
func TestEdits(t *testing.T) {
	d, f := made(t, 512)
	m := bare()
	for i, x := range []api.Edit{
		dir("/d"), file("/d/f", "one"), link("/d/l", "to"), file("/d/f", "two, longer"), file("/d/f", ""), file("/d/f", text(2432)), file("/d/f", text(384)), file("/d/f", text(385)),
		link("/d/l", text(120)), link("/d/l", ""), {Kind: api.EdDir, Path: "/d", Mode: 7}, {Kind: api.EdFile, Path: "/d/f", Mode: 0, Bytes: []byte(text(385))},
		mode("/d/f", 4095), mode("/d", 0), mode("/", 5), {Kind: api.EdDir, Path: "/", Mode: 4095}, mode("/", 0),
		dir("/d/e"), dir("/d/e/e"), file("/d/e/e/f", text(64)), file("/d/e/g", text(128)), gone("/d/e"), gone("/d/l"), file("/d/l", "a file now"), gone("/d/l"), dir("/d/l"), gone("/d"),
	} {
		m = m.steps(t, f, x)
		wantKept(t, d, f, m)
		if f.Groups() != i+1 {
			t.Fatalf("%d groups behind %d edits", f.Groups(), i+1)
		}
	}
}

// P4.3: an edit that leaves the tree as it is, and edits that take each other back, write nothing.
func TestEqualTreesAreNotWritten(t *testing.T) {
	d, f := made(t, 512)
	m := bare().steps(t, f, dir("/d"), file("/d/f", text(400)), link("/d/l", "to"), file("/e", ""))
	was, writes := image(t, d), d.Writes()
	for _, l := range [][]api.Edit{
		{}, {dir("/d")}, {file("/d/f", text(400))}, {link("/d/l", "to")}, {file("/e", "")}, {mode("/d/f", 420)}, {mode("/d/l", 77)}, {mode("/", 493)}, {dir("/")},
		{mode("/d", 1), mode("/d", 493)}, {gone("/d/f"), file("/d/f", text(400))}, {dir("/x"), file("/x/y", "z"), gone("/x")},
		{gone("/d"), dir("/d"), link("/d/l", "to"), file("/d/f", text(400))}, {file("/e", "x"), file("/e", "")},
		{gone("/e"), dir("/e"), gone("/e"), file("/e", "")},
	} {
		wantDo(t, f, api.OK, l...)
		if d.Writes() != writes || f.Groups() != 4 || !bytes.Equal(image(t, d), was) {
			t.Fatalf("Do(%v) wrote %d blocks", short(l), d.Writes()-writes)
		}
	}
	wantKept(t, d, f, m)
}

// P4.3: trees that differ in one thing alone are not equal.
func TestSmallChangesAreWritten(t *testing.T) {
	for _, l := range [][]api.Edit{
		{mode("/d/f", 421)}, {file("/d/f", "bytez")}, {file("/d/f", "byte")}, {link("/d/l", "tp")}, {mode("/", 492)}, {mode("/d/e", 492)},
		{gone("/d/f"), link("/d/f", "bytes")}, {gone("/d/e"), {Kind: api.EdFile, Path: "/d/e", Mode: 493}}, {gone("/z"), {Kind: api.EdFile, Path: "/z"}}, {gone("/g"), {Kind: api.EdFile, Path: "/g", Mode: 420}, gone("/d/l"), file("/d/m", "")}, {gone("/z"), dir("/z")},
	} {
		d, f := made(t, 512)
		m := bare().steps(t, f, dir("/d"), file("/d/f", "bytes"), link("/d/l", "to"), dir("/d/e"), file("/g", ""), link("/z", ""))
		m, _ = m.do(l, 278)
		wantDo(t, f, api.OK, l...)
		wantKept(t, d, f, m)
		if f.Groups() != 7 {
			t.Errorf("Do(%v): %d groups", short(l), f.Groups())
		}
	}
}

// P4.3: fields that an edit's kind does not mention count for nothing.
func TestIgnoredFields(t *testing.T) {
	d, f := made(t, 512)
	long := make([]byte, 100000)
	wantDo(t, f, api.OK, api.Edit{Kind: api.EdDir, Path: "/d", Mode: 1, Bytes: long})
	wantDo(t, f, api.OK, api.Edit{Kind: api.EdLink, Path: "/d/l", Mode: -5, Bytes: []byte("x")})
	wantDo(t, f, api.OK, api.Edit{Kind: api.EdLink, Path: "/d/k", Mode: 4096})
	wantDo(t, f, api.OK, api.Edit{Kind: api.EdMode, Path: "/d", Mode: 2, Bytes: long}, api.Edit{Kind: api.EdMode, Path: "/d/k", Mode: 2, Bytes: long})
	wantKept(t, d, f, plain{"/": {kind: api.KindDir, mode: 493}, "/d": {kind: api.KindDir, mode: 2}, "/d/l": {kind: api.KindLink, bytes: "x"}, "/d/k": {kind: api.KindLink}})
	wantDo(t, f, api.OK, api.Edit{Kind: api.EdGone, Path: "/d", Mode: 9999, Bytes: long})
	wantKept(t, d, f, bare())
}

// P4.3: 24 edits, and 2432 bytes of them, are not too many; one more is.
func TestTooLong(t *testing.T) {
	_, f := made(t, 512)
	var l []api.Edit
	for i := range 24 {
		l = append(l, mode("/", i))
	}
	wantDo(t, f, api.OK, l...)
	m := plain{"/": {kind: api.KindDir, mode: 23}}
	wantRefused(t, f, m, api.ErrLong, append(l, mode("/", 1))...)
	wantRefused(t, f, m, api.ErrLong, make([]api.Edit, 25)...)
	wantRefused(t, f, m, api.ErrLong, make([]api.Edit, 100000)...)
	wantRefused(t, f, m, api.ErrArg, make([]api.Edit, 24)...)
	wantRefused(t, f, m, api.ErrLong, file("/a", text(2433)))
	wantRefused(t, f, m, api.ErrLong, file("/a", text(2432)), link("/b", "x"))
	wantRefused(t, f, m, api.ErrLong, file("/a", text(1216)), file("/a", text(1217)))
	wantRefused(t, f, m, api.ErrLong, link("/a", text(2433)))
	m = m.steps(t, f, file("/a", text(2432)))
	l = []api.Edit{file("/a", text(2312)), link("/b", text(120)), {Kind: api.EdDir, Path: "/c", Bytes: []byte("x")}, {Kind: api.EdMode, Path: "/c", Bytes: []byte("x")}, {Kind: api.EdGone, Path: "/c", Bytes: []byte("x")}}
	wantDo(t, f, api.OK, l...)
	m, _ = m.do(l, 278)
	wantTree(t, f, m)
}

// refusals is edits of the tree of TestRefusals, each refused for one reason.
func refusals() map[api.Errno][]api.Edit {
	l := map[api.Errno][]api.Edit{}
	for _, kind := range []int{0, -1, 6, 9, math.MinInt, math.MaxInt} {
		l[api.ErrArg] = append(l[api.ErrArg], api.Edit{Kind: kind, Path: "/d"})
	}
	for _, m := range []int{-1, 4096, math.MinInt, math.MaxInt} {
		l[api.ErrArg] = append(l[api.ErrArg], mode("/d", m), mode("/", m), api.Edit{Kind: api.EdFile, Path: "/f", Mode: m}, api.Edit{Kind: api.EdDir, Path: "/d", Mode: m})
	}
	for kind := api.EdFile; kind <= api.EdGone; kind++ {
		for _, path := range []string{"", "f", "//", "/f/", "/..", "/d/.", "/a b", "/" + strings.Repeat("a", 29), "/a/a/a/a/a/a/a/a/a", strings.Repeat("/"+strings.Repeat("a", 27), 4) + "/aaaaaaaa"} {
			l[api.ErrPath] = append(l[api.ErrPath], api.Edit{Kind: kind, Path: path})
		}
		for _, path := range []string{"/x/y", "/d/x/y", "/x/y/z"} {
			l[api.ErrNoEntry] = append(l[api.ErrNoEntry], api.Edit{Kind: kind, Path: path})
		}
		for _, path := range []string{"/f/y", "/l/y", "/d/f/y", "/f/y/z"} {
			l[api.ErrKind] = append(l[api.ErrKind], api.Edit{Kind: kind, Path: path})
		}
	}
	l[api.ErrPath] = append(l[api.ErrPath], gone("/"))
	l[api.ErrNoEntry] = append(l[api.ErrNoEntry], mode("/x", 1), gone("/x"), mode("/d/x", 1), gone("/d/x"))
	l[api.ErrKind] = append(l[api.ErrKind], file("/", ""), link("/", ""), file("/d", ""), file("/l", ""), dir("/f"), dir("/l"), link("/d", ""), link("/f", ""), file("/full", ""))
	l[api.ErrNames] = append(l[api.ErrNames], file("/full/x", ""), dir("/full/x"), link("/full/x", ""))
	l[api.ErrLong] = append(l[api.ErrLong], link("/x", text(121)), link("/l", text(121)), link("/x", text(2432)))
	return l
}

// P4.3: each thing that makes an edit refused, alone, first and behind edits that are not.
func TestRefusals(t *testing.T) {
	_, f := made(t, 512)
	m := bare().steps(t, f, dir("/d"), file("/d/f", "x"), file("/f", "y"), link("/l", "z"), dir("/full"))
	for i := range 16 {
		m = m.steps(t, f, file("/full/"+strconv.Itoa(i), ""))
	}
	for want, l := range refusals() {
		for _, x := range l {
			wantRefused(t, f, m, want, x)
			wantRefused(t, f, m, want, dir("/new"), file("/new/f", text(9)), mode("/", 7), x, gone("/d"))
		}
	}
	wantKept(t, f.d, f, m)
}

// P4.3: of several things that are wrong the first one that the document names is told.
func TestOrderOfErrors(t *testing.T) {
	_, f := made(t, 512)
	m := bare().steps(t, f, dir("/d"), file("/f", "y"), link("/l", "z"), dir("/full"))
	for i := range 16 {
		m = m.steps(t, f, dir("/full/"+strconv.Itoa(i)))
	}
	bad := api.Edit{Kind: 9, Path: "x"}
	wantRefused(t, f, m, api.ErrLong, bad, file("/a", text(2433)))
	wantRefused(t, f, m, api.ErrLong, append([]api.Edit{bad}, make([]api.Edit, 24)...)...)
	wantRefused(t, f, m, api.ErrArg, bad)
	wantRefused(t, f, m, api.ErrArg, mode("x", -1))
	wantRefused(t, f, m, api.ErrArg, api.Edit{Kind: api.EdFile, Path: "/", Mode: 4096})
	wantRefused(t, f, m, api.ErrArg, api.Edit{Kind: api.EdDir, Path: "/x/y", Mode: 4096})
	wantRefused(t, f, m, api.ErrPath, file("/f/..", ""))
	wantRefused(t, f, m, api.ErrKind, link("/", text(121)))
	wantRefused(t, f, m, api.ErrNoEntry, link("/x/y", text(121)))
	wantRefused(t, f, m, api.ErrKind, link("/f/y", text(121)))
	wantRefused(t, f, m, api.ErrLong, link("/d", text(121)))
	wantRefused(t, f, m, api.ErrLong, link("/full/x", text(121)))
	wantRefused(t, f, m, api.ErrKind, link("/full/3", ""))
	wantRefused(t, f, m, api.ErrNoEntry, gone("/x"), bad)
	wantRefused(t, f, m, api.ErrArg, bad, gone("/x"))
	wantRefused(t, f, m, api.ErrNames, append(many("/d", 20), bad)...)
}

// many makes so many files in a directory.
func many(in string, n int) []api.Edit {
	var l []api.Edit
	for i := range n {
		l = append(l, file(in+"/"+strconv.Itoa(100+i), ""))
	}
	return l
}

// P4.3: each edit is checked on the tree that those ahead of it make.
func TestEditsSeeThoseAhead(t *testing.T) {
	d, f := made(t, 512)
	wantRefused(t, f, bare(), api.ErrNoEntry, file("/d/f", ""), dir("/d"))
	wantRefused(t, f, bare(), api.ErrNoEntry, dir("/d"), gone("/d"), file("/d/f", ""))
	wantRefused(t, f, bare(), api.ErrKind, file("/d", ""), dir("/d"))
	wantRefused(t, f, bare(), api.ErrNoEntry, file("/f", ""), gone("/f"), gone("/f"))
	wantRefused(t, f, bare(), api.ErrNames, many("", 17)...)
	l := append(many("", 16), gone("/100"), file("/x", "y"), gone("/x"), dir("/x"), file("/x/f", "z"), gone("/101"), link("/101", "l"))
	wantDo(t, f, api.OK, l...)
	m, _ := bare().do(l, 278)
	wantKept(t, d, f, m)
}

// P4.3: a directory has at most 16 entries, wherever it is; what is there already can still be edited.
func TestNames(t *testing.T) {
	d, f := made(t, 512)
	m := bare().steps(t, f, dir("/d"))
	m = m.steps(t, f, many("/d", 16)...)
	wantRefused(t, f, m, api.ErrNames, file("/d/x", ""))
	m = m.steps(t, f, file("/d/100", "again"), mode("/d/101", 3), gone("/d/102"), link("/d/x", "l"))
	wantRefused(t, f, m, api.ErrNames, link("/d/y", ""))
	wantKept(t, d, f, m)
}

// P4.3: a tree has at most 64 nodes when all edits are done, however many in between.
func TestNodes(t *testing.T) {
	d, f := made(t, 512)
	m := bare()
	for _, in := range []string{"/a", "/b", "/c", "/d"} {
		m = m.steps(t, f, dir(in))
		m = m.steps(t, f, many(in, 14)...)
	}
	m = m.steps(t, f, many("", 3)...)
	if f.Count() != 64 {
		t.Fatalf("Count: %d", f.Count())
	}
	wantKept(t, d, f, m)
	wantRefused(t, f, m, api.ErrNodes, dir("/x"))
	wantRefused(t, f, m, api.ErrNodes, gone("/a/100"), file("/a/x", ""), link("/b/x", ""))
	l := []api.Edit{dir("/x"), file("/x/y", "1"), link("/x/z", "2"), gone("/a"), dir("/a"), file("/a/100", "now")}
	wantDo(t, f, api.OK, l...)
	m, _ = m.do(l, 278)
	wantKept(t, d, f, m)
	m = m.steps(t, f, many("/x", 10)...)
	wantRefused(t, f, m, api.ErrNodes, file("/x/w", ""))
	wantKept(t, d, f, m)
}

// brim is a tree that leaves so many blocks of 512.
func brim(t *testing.T, left int) (*FS, plain) {
	t.Helper()
	_, f := made(t, 512)
	m := bare()
	for i := range 6 {
		m = m.steps(t, f, file("/"+strconv.Itoa(i), text(2432)))
	}
	m = m.steps(t, f, dir("/d"))
	m = m.steps(t, f, file("/d/f", text(64*(f.Free()-left-2))))
	if f.Free() != left {
		t.Fatalf("Free: %d; want %d", f.Free(), left)
	}
	return f, m
}

// P4.3: a tree may take the last block, and not one more.
func TestFull(t *testing.T) {
	f, m := brim(t, 1)
	wantRefused(t, f, m, api.ErrFull, file("/d/g", text(65)))
	wantRefused(t, f, m, api.ErrFull, dir("/d/g"), dir("/d/h"), dir("/d/i"), dir("/d/j"))
	m = m.steps(t, f, file("/d/g", text(64)))
	if f.Free() != 0 {
		t.Fatalf("Free: %d", f.Free())
	}
	wantKept(t, f.d, f, m)
	wantRefused(t, f, m, api.ErrFull, file("/d/g", text(65)))
	wantRefused(t, f, m, api.ErrFull, file("/d/h", ""))
	wantRefused(t, f, m, api.ErrFull, link("/d/g2", ""))
	m = m.steps(t, f, file("/d/g", text(63)), mode("/", 1), file("/5", text(2431)), gone("/d/g"), file("/d/h", text(2)))
	wantKept(t, f.d, f, m)
}

// P4.3: only the tree behind all edits must fit; what an edit frees another one takes.
func TestFullInBetween(t *testing.T) {
	f, m := brim(t, 0)
	for _, l := range [][]api.Edit{
		{file("/d/x", text(500)), gone("/d/x")}, {file("/d/x", text(2432)), gone("/0")}, {gone("/d/x"), file("/9", text(2432))},
		{file("/1", ""), file("/d/y", text(2000)), dir("/d/z")}, {gone("/d/y"), file("/d/f", text(65)), file("/1", text(2300))},
	} {
		next, e := m.do(l, 278)
		if e != api.OK {
			t.Fatalf("%v: %d", short(l), e)
		}
		m = next
		wantDo(t, f, api.OK, l...)
		wantKept(t, f.d, f, m)
	}
}

// P4.3: too many nodes are told ahead of too many blocks.
func TestNodesAheadOfFull(t *testing.T) {
	f, m := brim(t, 0)
	wantDo(t, f, api.OK, gone("/5"))
	m, _ = m.do([]api.Edit{gone("/5")}, 278)
	for _, in := range []string{"/x", "/y", "/z"} {
		m = m.steps(t, f, dir(in))
		m = m.steps(t, f, many(in, 16)...)
	}
	if f.Count() != 59 {
		t.Fatalf("Count: %d", f.Count())
	}
	l := many("/d", 6)
	l[0].Bytes = []byte(text(2432))
	wantRefused(t, f, m, api.ErrNodes, l...)
	wantRefused(t, f, m, api.ErrFull, l[:5]...)
}

// P4.3: on the greatest disk, edits of as many directories and files as there may be, at once.
func TestGreatestGroups(t *testing.T) {
	d, f := made(t, 4096)
	m := bare()
	each := func(n int, edits func(in string) []api.Edit) (l []api.Edit) {
		for i := range n {
			l = append(l, edits("/"+strconv.Itoa(10+i))...)
		}
		return l
	}
	m = m.steps(t, f, each(12, func(in string) []api.Edit {
		return []api.Edit{dir(in), dir(in + "/e"), file(in+"/f", text(2400)), file(in+"/e/g", text(2432)), file(in+"/h", text(9))}
	})...)
	for _, l := range [][]api.Edit{
		each(12, func(in string) []api.Edit { return []api.Edit{gone(in + "/f"), file(in+"/e/z", text(193))} }),
		each(12, func(in string) []api.Edit { return []api.Edit{file(in+"/e/z", text(65)), file(in+"/h", text(129))} }),
		each(12, func(in string) []api.Edit { return []api.Edit{gone(in + "/e/g"), gone(in + "/h")} }),
		each(12, func(in string) []api.Edit { return []api.Edit{file(in+"/e/y", text(1)), file(in+"/x", text(193))} }),
		append(each(11, func(in string) []api.Edit { return []api.Edit{gone(in), dir(in)} }), file("/21/f", text(2432))),
		each(12, func(in string) []api.Edit { return []api.Edit{file(in+"/f", text(200)), mode(in, 9)} }),
		each(12, func(in string) []api.Edit { return []api.Edit{gone(in)} }),
	} {
		var e api.Errno
		if m, e = m.do(l, 4096-dataOf(4096)); e != api.OK {
			t.Fatal(e)
		}
		wantDo(t, f, api.OK, l...)
		wantKept(t, d, f, m)
	}
}

// P4.3: four full directories, and all else that one Do can write, at once.
func TestFourFullDirectories(t *testing.T) {
	d, f := made(t, 4096)
	m := bare()
	for _, in := range []string{"/a", "/b", "/c"} {
		m = m.steps(t, f, dir(in))
		m = m.steps(t, f, many(in, 14)...)
	}
	m = m.steps(t, f, many("", 10)...)
	var l []api.Edit
	for _, in := range []string{"/a", "/b", "/c"} {
		l = append(l, gone(in+"/100"), gone(in+"/113"), file(in+"/x", text(398)), file(in+"/y", text(398)), mode(in+"/107", 1))
	}
	l = append(l, gone("/100"), file("/101", text(1)), file("/109", text(3)), link("/k", text(20)), link("/l", text(20)), dir("/m"), file("/m/n", ""))
	wantDo(t, f, api.OK, l...)
	m, e := m.do(l, 4096-dataOf(4096))
	if e != api.OK {
		t.Fatal(e)
	}
	wantKept(t, d, f, m)
}

// R7: edits stay as they are, and what is done does not hang on them.
func TestEditsAreNotKept(t *testing.T) {
	d, f := made(t, 512)
	room := []byte(text(70) + "spare")
	l := make([]api.Edit, 3, 9)
	l[0], l[1], l[2] = api.Edit{Kind: api.EdFile, Path: "/f", Mode: 1, Bytes: room[:70]}, link("/l", "to"), dir("/d")
	was := slices.Clone(l)
	wantDo(t, f, api.OK, l...)
	for i := range l {
		if l[i].Kind != was[i].Kind || l[i].Path != was[i].Path || l[i].Mode != was[i].Mode || string(l[i].Bytes) != string(was[i].Bytes) {
			t.Errorf("edit %d is changed", i)
		}
	}
	if string(room) != text(70)+"spare" {
		t.Error("bytes are changed")
	}
	clear(room)
	clear(l[1].Bytes)
	wantKept(t, d, f, plain{"/": {kind: api.KindDir, mode: 493}, "/f": {kind: api.KindFile, mode: 1, bytes: text(70)}, "/l": {kind: api.KindLink, bytes: "to"}, "/d": {kind: api.KindDir, mode: 493}})
}

// P4.3: files of every number of blocks, made greater and smaller.
func TestEverySize(t *testing.T) {
	d, f := made(t, 512)
	m := bare().steps(t, f, file("/first", "x"))
	for _, n := range []int{1, 2, 5, 6, 7, 8, 37, 38, 36, 7, 6, 5, 0, 38, 0, 7, 6} {
		for _, size := range []int{64*n - 63, 64*n - 1, 64 * n} {
			m = m.steps(t, f, file("/f", text(max(size, 0))), mode("/f", 1))
			wantKept(t, d, f, m)
		}
	}
	for n := range 16 {
		m = m.steps(t, f, dir("/d"), file("/d/"+strconv.Itoa(n), text(n)))
		wantKept(t, d, f, m)
	}
	for n := range 16 {
		m = m.steps(t, f, gone("/d/"+strconv.Itoa(15-n)))
		wantKept(t, d, f, m)
	}
}

// P4.3: the deepest paths.
func TestDeepest(t *testing.T) {
	d, f := made(t, 512)
	m := bare()
	path := ""
	for i := range 8 {
		path += "/" + strings.Repeat(string(rune('a'+i)), 14)
		m = m.steps(t, f, dir(path))
	}
	wantRefused(t, f, m, api.ErrPath, file(path+"/x", ""))
	m = m.steps(t, f, gone(path), file(path, "deep"), mode(above(above(path)), 3))
	wantKept(t, d, f, m)
	m = m.steps(t, f, gone("/aaaaaaaaaaaaaa"))
	wantKept(t, d, f, m)
}

// P4.4: Groups counts the Dos that wrote, not their edits, nor those that wrote nothing.
func TestGroups(t *testing.T) {
	d, f := made(t, 512)
	for i, c := range []struct {
		l    []api.Edit
		want int
	}{
		{nil, 0}, {[]api.Edit{dir("/a"), dir("/b")}, 1}, {[]api.Edit{dir("/a")}, 1}, {[]api.Edit{gone("/x")}, 1}, {[]api.Edit{gone("/a"), file("/a", "")}, 2}, {[]api.Edit{gone("/a")}, 3}, {many("", 17), 3},
	} {
		f.Do(c.l)
		if f.Groups() != c.want {
			t.Errorf("%d: Groups: %d; want %d", i, f.Groups(), c.want)
		}
		f = open(t, d)
		if f.Groups() != c.want {
			t.Errorf("%d: Groups, opened anew: %d; want %d", i, f.Groups(), c.want)
		}
	}
}
