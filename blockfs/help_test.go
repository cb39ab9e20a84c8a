package blockfs

import (
	"bytes"
	"maps"
	"regexp"
	"slices"
	"strings"
	"testing"

	"majordomo/api"
	"majordomo/disk"
)

// thing is what the plain tree has at a path.
type thing struct {
	kind, mode int
	bytes      string
}

// plain is a tree without a disk: what is at each path, the root at "/".
type plain map[string]thing

func bare() plain { return plain{"/": {kind: api.KindDir, mode: 493}} }

var pathForm = regexp.MustCompile(`^(/|(/[A-Za-z0-9._-]{1,28}){1,8})$`)

func isPath(s string) bool {
	return len(s) <= 120 && pathForm.MatchString(s) && !strings.Contains(s+"/", "/./") && !strings.Contains(s+"/", "/../")
}

// above is the path of the directory that a path's last name is in.
func above(path string) string {
	if at := strings.LastIndex(path, "/"); at > 0 {
		return path[:at]
	}
	return "/"
}

// names is what is in a directory.
func (m plain) names(dir string) []string {
	var l []string
	for p := range m {
		if p != "/" && above(p) == dir {
			l = append(l, p[strings.LastIndex(p, "/")+1:])
		}
	}
	slices.Sort(l)
	return l
}

func (m plain) size(path string) int {
	if m[path].kind == api.KindDir {
		return len(m.names(path))
	}
	return len(m[path].bytes)
}

// resolve tells why there is nothing at a path, if there is nothing.
func (m plain) resolve(path string) api.Errno {
	if !isPath(path) {
		return api.ErrPath
	}
	if path == "/" {
		return api.OK
	}
	if e := m.resolve(above(path)); e != api.OK {
		return e
	}
	if m[above(path)].kind != api.KindDir {
		return api.ErrKind
	}
	if _, ok := m[path]; !ok {
		return api.ErrNoEntry
	}
	return api.OK
}

// takes is how many blocks the tree occupies.
func (m plain) takes() int {
	sum := 0
	for p, x := range m {
		each := 64
		if x.kind == api.KindDir {
			each = 2
		}
		n := (m.size(p) + each - 1) / each
		if n > 6 {
			n++
		}
		sum += n
	}
	return sum
}

// do is Do as the document says it, on a disk with so many blocks from Data on.
func (m plain) do(l []api.Edit, room int) (plain, api.Errno) {
	sum := 0
	for _, x := range l {
		if x.Kind == api.EdFile || x.Kind == api.EdLink {
			sum += len(x.Bytes)
		}
	}
	if len(l) > 24 || sum > 2432 {
		return m, api.ErrLong
	}
	next := maps.Clone(m)
	for _, x := range l {
		if e := next.edit(x); e != api.OK {
			return m, e
		}
	}
	if len(next) > 64 {
		return m, api.ErrNodes
	}
	if next.takes() > room {
		return m, api.ErrFull
	}
	return next, api.OK
}

func (m plain) edit(x api.Edit) api.Errno {
	moded := x.Kind == api.EdFile || x.Kind == api.EdDir || x.Kind == api.EdMode
	if x.Kind < 1 || x.Kind > 5 || moded && (x.Mode < 0 || x.Mode > 4095) {
		return api.ErrArg
	}
	if !isPath(x.Path) {
		return api.ErrPath
	}
	now, there := m[x.Path]
	if x.Path == "/" {
		switch x.Kind {
		case api.EdFile, api.EdLink:
			return api.ErrKind
		case api.EdGone:
			return api.ErrPath
		}
		now.mode = x.Mode
		m["/"] = now
		return api.OK
	}
	if e := m.resolve(above(x.Path)); e != api.OK {
		return e
	}
	if m[above(x.Path)].kind != api.KindDir {
		return api.ErrKind
	}
	switch x.Kind {
	case api.EdMode:
		if !there {
			return api.ErrNoEntry
		}
		if now.kind != api.KindLink {
			now.mode = x.Mode
		}
		m[x.Path] = now
		return api.OK
	case api.EdGone:
		if !there {
			return api.ErrNoEntry
		}
		maps.DeleteFunc(m, func(p string, _ thing) bool { return p == x.Path || strings.HasPrefix(p, x.Path+"/") })
		return api.OK
	}
	next := thing{kind: api.KindDir, mode: x.Mode}
	if x.Kind == api.EdFile {
		next = thing{kind: api.KindFile, mode: x.Mode, bytes: string(x.Bytes)}
	}
	if x.Kind == api.EdLink {
		next = thing{kind: api.KindLink, bytes: string(x.Bytes)}
		if len(x.Bytes) > 120 {
			return api.ErrLong
		}
	}
	if there && now.kind != next.kind {
		return api.ErrKind
	}
	if !there && len(m.names(above(x.Path))) == 16 {
		return api.ErrNames
	}
	m[x.Path] = next
	return api.OK
}

// The edits, in short.
func file(path string, b string) api.Edit {
	return api.Edit{Kind: api.EdFile, Path: path, Mode: 420, Bytes: []byte(b)}
}

func dir(path string) api.Edit { return api.Edit{Kind: api.EdDir, Path: path, Mode: 493} }

func link(path, to string) api.Edit {
	return api.Edit{Kind: api.EdLink, Path: path, Bytes: []byte(to)}
}

func mode(path string, m int) api.Edit { return api.Edit{Kind: api.EdMode, Path: path, Mode: m} }

func gone(path string) api.Edit { return api.Edit{Kind: api.EdGone, Path: path} }

func newDisk(t *testing.T, blocks int) *disk.Disk {
	t.Helper()
	d, e := disk.New(blocks)
	if e != api.OK {
		t.Fatal(e)
	}
	return d
}

// littered is a disk whose blocks hold all sorts of bytes.
func littered(t *testing.T, blocks int) *disk.Disk {
	t.Helper()
	d := newDisk(t, blocks)
	for i := range blocks {
		b := make([]byte, 64)
		for k := range b {
			b[k] = byte(1 + i*7 + k*13)
		}
		put(t, d, i, b)
	}
	return d
}

func put(t *testing.T, d *disk.Disk, i int, b []byte) {
	t.Helper()
	if e := d.Write(i, b); e != api.OK {
		t.Fatal(e)
	}
}

func get(t *testing.T, d *disk.Disk, i int) []byte {
	t.Helper()
	b, e := d.Read(i)
	if e != api.OK {
		t.Fatal(e)
	}
	return b
}

// image is what all blocks of a disk hold.
func image(t *testing.T, d *disk.Disk) []byte {
	t.Helper()
	var l []byte
	for i := range d.Len() {
		l = append(l, get(t, d, i)...)
	}
	return l
}

func open(t *testing.T, d *disk.Disk) *FS {
	t.Helper()
	f, e := Open(d)
	if e != api.OK || f == nil {
		t.Fatalf("Open: %v, %d", f, e)
	}
	return f
}

// made is a littered disk with a tree, and the tree.
func made(t *testing.T, blocks int, l ...api.Edit) (*disk.Disk, *FS) {
	t.Helper()
	d := littered(t, blocks)
	if e := Format(d); e != api.OK {
		t.Fatalf("Format: %d", e)
	}
	f := open(t, d)
	for _, x := range l {
		wantDo(t, f, api.OK, x)
	}
	return d, f
}

func wantDo(t *testing.T, f *FS, want api.Errno, l ...api.Edit) {
	t.Helper()
	if e := f.Do(l); e != want {
		t.Fatalf("Do(%v): %d; want %d", l, e, want)
	}
}

// wantOpenError: Open answers this error, and writes nothing.
func wantOpenError(t *testing.T, why string, d *disk.Disk, want api.Errno) {
	t.Helper()
	writes := d.Writes()
	if f, e := Open(d); e != want || f != nil {
		t.Errorf("%s: Open: %v, %d; want %d", why, f, e, want)
	}
	if d.Writes() != writes {
		t.Errorf("%s: Open wrote %d blocks", why, d.Writes()-writes)
	}
}

// dataOf is the first block that trees use, as chapter 3 tells it.
func dataOf(blocks int) int { return 201 + (blocks+511)/512 + 32 }

// wantTree: the file system tells just this tree, and its blocks are counted as the document says.
func wantTree(t *testing.T, f *FS, m plain) {
	t.Helper()
	for p, x := range m {
		if s, e := f.Stat(p); e != api.OK || s != (api.Node{Kind: x.kind, Mode: x.mode, Size: m.size(p)}) {
			t.Fatalf("Stat(%s): %v, %d; want %v", p, s, e, x)
		}
		b, e := f.Read(p)
		l, k := f.List(p)
		if x.kind == api.KindDir {
			if b != nil || e != api.ErrKind || k != api.OK || !slices.Equal(l, m.names(p)) {
				t.Fatalf("%s: Read: %v, %d; List: %v, %d; want %v", p, b, e, l, k, m.names(p))
			}
		} else if e != api.OK || string(b) != x.bytes || l != nil || k != api.ErrKind {
			t.Fatalf("%s: Read: %q, %d; List: %v, %d; want %q", p, b, e, l, k, x.bytes)
		}
	}
	if f.Count() != len(m) {
		t.Fatalf("Count: %d; want %d", f.Count(), len(m))
	}
	wantAudit(t, f, m)
}

// wantAudit: each block of the disk is fixed, used or free, and as many are used as the tree occupies.
func wantAudit(t *testing.T, f *FS, m plain) {
	t.Helper()
	blocks := f.d.Len()
	data := dataOf(blocks)
	fixed, used, free := f.Audit()
	for _, l := range [][]int{fixed, used, free} {
		if !slices.IsSorted(l) {
			t.Fatalf("Audit: %v does not rise", l)
		}
	}
	for i, b := range fixed {
		if b != i {
			t.Fatalf("Audit: fixed %v", fixed)
		}
	}
	if len(fixed) != data || len(used) != m.takes() || f.Free() != blocks-data-m.takes() {
		t.Fatalf("Audit: %d fixed, %d used, Free %d; want %d, %d, %d", len(fixed), len(used), f.Free(), data, m.takes(), blocks-data-m.takes())
	}
	all := slices.Concat(fixed, used, free)
	slices.Sort(all)
	for i, b := range all {
		if i != b {
			t.Fatalf("Audit: block %d stands twice or not at all", i)
		}
	}
	if len(all) != blocks {
		t.Fatalf("Audit: %d blocks of %d", len(all), blocks)
	}
}

// wantKept: the tree is this one, and so is the one that is opened anew; the Counter is as the litter left it.
func wantKept(t *testing.T, d *disk.Disk, f *FS, m plain) {
	t.Helper()
	wantTree(t, f, m)
	g := open(t, d.Clone())
	wantTree(t, g, m)
	if f.Groups() != g.Groups() {
		t.Fatalf("Groups: %d, opened anew %d", f.Groups(), g.Groups())
	}
	wantCounter(t, d)
}

func wantCounter(t *testing.T, d *disk.Disk) {
	t.Helper()
	if !bytes.Equal(get(t, d, 1), get(t, littered(t, 2), 1)) {
		t.Fatal("the Counter was written")
	}
}

// steps does edits one Do each, on a tree and on the plain one.
func (m plain) steps(t *testing.T, f *FS, l ...api.Edit) plain {
	t.Helper()
	for _, x := range l {
		wantDo(t, f, api.OK, x)
		var e api.Errno
		if m, e = m.do([]api.Edit{x}, f.d.Len()-dataOf(f.d.Len())); e != api.OK {
			t.Fatalf("%v: %d", x, e)
		}
	}
	return m
}

// dice tells numbers that look thrown, the same ones in each run.
type dice uint32

func (x *dice) next(n int) int {
	*x = *x*1664525 + 1013904223
	return int(*x>>16) % n
}

func text(n int) string {
	b := make([]byte, n)
	for i := range b {
		b[i] = byte(i*31 + n)
	}
	return string(b)
}
