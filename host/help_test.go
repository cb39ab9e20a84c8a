package host_test

import (
	"slices"
	"strconv"
	"strings"
	"testing"

	"majordomo/api"
	"majordomo/disk"
	"majordomo/host"
	"majordomo/resource"
)

// The edits, in short.
func fileOf(path string, mode int, b string) api.Edit {
	return api.Edit{Kind: api.EdFile, Path: path, Mode: mode, Bytes: []byte(b)}
}

func file(path, b string) api.Edit { return fileOf(path, 420, b) }

func dir(path string) api.Edit { return api.Edit{Kind: api.EdDir, Path: path, Mode: 493} }

func link(path, to string) api.Edit {
	return api.Edit{Kind: api.EdLink, Path: path, Bytes: []byte(to)}
}

func chmod(path string, m int) api.Edit { return api.Edit{Kind: api.EdMode, Path: path, Mode: m} }

func gone(path string) api.Edit { return api.Edit{Kind: api.EdGone, Path: path} }

func services(text string) api.Edit { return file("/tab/services", text) }

func owed(titles ...string) api.Edit { return fileOf("/run/owed", 384, lines(titles...)) }

// lines is texts, each with a line feed behind it.
func lines(l ...string) string {
	if len(l) == 0 {
		return ""
	}
	return strings.Join(l, "\n") + "\n"
}

// numbered is so many texts that rise.
func numbered(head string, n int) []string {
	var l []string
	for i := range n {
		l = append(l, head+strconv.Itoa(1000+i))
	}
	return l
}

// full is a resource with all its parameters; those that it is given are written name and value in turn.
func full(kind, title string, words ...string) api.Resource {
	r := api.Resource{Type: kind, Title: title}
	for i := 0; i < len(words); i += 2 {
		r.P = append(r.P, api.Param{Name: words[i], Value: words[i+1]})
	}
	r, e := resource.Full(r)
	if e != api.OK {
		panic(kind + title)
	}
	return r
}

func of(l ...api.Resource) api.Catalog { return api.Catalog{Version: 1, Node: "n1", R: l} }

// with is a catalog and edges: from, to, and 1 for one that notifies, in turn.
func with(c api.Catalog, l ...int) api.Catalog {
	for i := 0; i < len(l); i += 3 {
		c.E = append(c.E, api.Edge{From: l[i], To: l[i+1], Notify: l[i+2] == 1})
	}
	return c
}

// notifying is the file /a of these bytes, and services that it notifies.
func notifying(content string, titles ...string) api.Catalog {
	c := of(full("file", "/a", "content", content))
	for i, title := range titles {
		c.R = append(c.R, full("service", title))
		c = with(c, 0, i+1, 1)
	}
	return c
}

// copied is a catalog that shares nothing with c.
func copied(c api.Catalog) api.Catalog {
	c.R, c.E = slices.Clone(c.R), slices.Clone(c.E)
	for i := range c.R {
		c.R[i].P = slices.Clone(c.R[i].P)
	}
	return c
}

func sameCatalog(a, b api.Catalog) bool {
	return a.Version == b.Version && a.Node == b.Node && slices.Equal(a.E, b.E) && slices.EqualFunc(a.R, b.R, func(x, y api.Resource) bool {
		return x.Type == y.Type && x.Title == y.Title && slices.Equal(x.P, y.P)
	})
}

// node is a host and its disk.
type node struct {
	d *disk.Disk
	h *host.Host
}

func newDisk(t *testing.T, blocks int) *disk.Disk {
	t.Helper()
	d, e := disk.New(blocks)
	if e != api.OK {
		t.Fatal(e)
	}
	return d
}

func opened(t *testing.T, d *disk.Disk) node {
	t.Helper()
	h, e := host.Open(d)
	if e != api.OK {
		t.Fatalf("Open: %d", e)
	}
	return node{d, h}
}

// made is a new host, and what edits make of its tree.
func made(t *testing.T, l ...api.Edit) node {
	t.Helper()
	d := newDisk(t, 600)
	if e := host.Format(d); e != api.OK {
		t.Fatalf("Format: %d", e)
	}
	x := opened(t, d)
	for _, edit := range l {
		x.do(t, edit)
	}
	return x
}

func (x node) do(t *testing.T, l ...api.Edit) {
	t.Helper()
	if e := x.h.Tree().Do(l); e != api.OK {
		t.Fatalf("Do of %d edits, the first at %s: %d", len(l), l[0].Path, e)
	}
}

func (x node) clone(t *testing.T) node {
	t.Helper()
	return opened(t, x.d.Clone())
}

// fill lays files till so many blocks are left.
func (x node) fill(t *testing.T, left int) {
	t.Helper()
	x.do(t, dir("/fill"))
	size := 2432
	for i := 0; x.h.Tree().Free() > left; {
		path := "/fill/" + strconv.Itoa(i)
		e := x.h.Tree().Do([]api.Edit{file(path, strings.Repeat("f", size))})
		if e == api.OK && x.h.Tree().Free() >= left {
			i++
			continue
		}
		if e == api.OK {
			x.do(t, gone(path))
		}
		if size -= 64; size < 0 {
			t.Fatalf("%s: %d; %d blocks are left", path, e, x.h.Tree().Free())
		}
	}
}

// off turns the power off.
func (x node) off() {
	x.d.Fuse(0)
	x.d.Write(0, make([]byte, 64))
}

// told is all of a host's state as a text: its mark, and what is at each path.
func (x node) told(t *testing.T) string {
	t.Helper()
	m := x.h.Mark()
	return strconv.Itoa(m.Count) + " " + strconv.FormatBool(m.Pending) + "\n" + x.toldAt(t, "/")
}

func (x node) toldAt(t *testing.T, path string) string {
	t.Helper()
	s, e := x.h.Tree().Stat(path)
	if e != api.OK {
		t.Fatalf("Stat(%s): %d", path, e)
	}
	text := path + " " + strconv.Itoa(s.Kind) + " " + strconv.Itoa(s.Mode)
	if b, e := x.h.Tree().Read(path); e == api.OK {
		text += " " + strconv.Quote(string(b))
	}
	text += "\n"
	names, _ := x.h.Tree().List(path)
	for _, name := range names {
		text += x.toldAt(t, strings.TrimSuffix(path, "/")+"/"+name)
	}
	return text
}

// kept tells the state as another opening of the disk finds it, which must be what the host itself tells.
func (x node) kept(t *testing.T) string {
	t.Helper()
	now := x.told(t)
	if found := x.clone(t).told(t); found != now {
		t.Fatalf("the host tells\n%s, but the disk holds\n%s", now, found)
	}
	return now
}

// wantLike: the host's state is that of a tree that these edits make, with the mark as it is.
func (x node) wantLike(t *testing.T, was node, l ...api.Edit) {
	t.Helper()
	y := was.clone(t)
	y.do(t, l...)
	if now, want := x.kept(t), y.told(t); now != want {
		t.Fatalf("the state is\n%s; want\n%s", now, want)
	}
}

// wantStill: the call writes nothing, and changes nothing.
func (x node) wantStill(t *testing.T, call func()) {
	t.Helper()
	was, writes := x.told(t), x.d.Writes()
	call()
	if x.d.Writes() != writes {
		t.Fatalf("%d blocks were written", x.d.Writes()-writes)
	}
	if now := x.told(t); now != was {
		t.Fatalf("the state was\n%s; now it is\n%s", was, now)
	}
}

// wantOneDo: the call does one Do, after which the state is that which these edits make.
func (x node) wantOneDo(t *testing.T, call func(), l ...api.Edit) {
	t.Helper()
	was, groups := x.clone(t), x.h.Tree().Groups()
	call()
	if n := x.h.Tree().Groups() - groups; n != 1 {
		t.Fatalf("%d Dos", n)
	}
	x.wantLike(t, was, l...)
}

func (x node) wantOwed(t *testing.T, want ...string) {
	t.Helper()
	l := x.h.Owed()
	if !slices.Equal(l, want) {
		t.Fatalf("Owed: %q; want %q", l, want)
	}
	for i := range l[:cap(l)] {
		l[:cap(l)][i] = "spoilt"
	}
	if again := x.h.Owed(); !slices.Equal(again, want) {
		t.Fatalf("Owed, asked again: %q; want %q", again, want)
	}
}

func (x node) wantStaged(t *testing.T, want string) {
	t.Helper()
	b := x.h.Staged()
	if string(b) != want {
		t.Fatalf("Staged: %q; want %q", b, want)
	}
	for i := range b[:cap(b)] {
		b[:cap(b)][i] ^= 0x55
	}
	if again := x.h.Staged(); string(again) != want {
		t.Fatalf("Staged, asked again: %q; want %q", again, want)
	}
}

// want: the call answered this error.
func want(t *testing.T, what string, e, wanted api.Errno) {
	t.Helper()
	if e != wanted {
		t.Fatalf("%s: %d; want %d", what, e, wanted)
	}
}

// apply applies a resource, which leaves the catalog as it is.
func (x node) apply(t *testing.T, c api.Catalog, i int) (bool, api.Errno) {
	t.Helper()
	before := copied(c)
	yes, e := x.h.Apply(c, i)
	if !sameCatalog(before, c) {
		t.Fatalf("Apply changed the catalog %v to %v", before, c)
	}
	return yes, e
}

func (x node) wantApply(t *testing.T, c api.Catalog, i int, want bool, wantE api.Errno) {
	t.Helper()
	if yes, e := x.apply(t, c, i); yes != want || e != wantE {
		t.Fatalf("Apply(%v, %d): %v, %d; want %v, %d", c, i, yes, e, want, wantE)
	}
}

// dice tells numbers that look thrown, the same ones in each run.
type dice uint32

func (x *dice) next(n int) int {
	*x = *x*1664525 + 1013904223
	return int(*x>>16) % n
}

func pick[T any](x *dice, l ...T) T { return l[x.next(len(l))] }
