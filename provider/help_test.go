package provider_test

import (
	"slices"
	"strings"
	"testing"

	"majordomo/api"
	"majordomo/blockfs"
	"majordomo/disk"
	"majordomo/provider"
	"majordomo/resource"
)

// The edits, in short.
func file(path, b string) api.Edit { return fileOf(path, 420, b) }

func fileOf(path string, mode int, b string) api.Edit {
	return api.Edit{Kind: api.EdFile, Path: path, Mode: mode, Bytes: []byte(b)}
}

func dir(path string) api.Edit { return dirOf(path, 493) }

func dirOf(path string, mode int) api.Edit {
	return api.Edit{Kind: api.EdDir, Path: path, Mode: mode}
}

func link(path, to string) api.Edit {
	return api.Edit{Kind: api.EdLink, Path: path, Bytes: []byte(to)}
}

func mode(path string, m int) api.Edit { return api.Edit{Kind: api.EdMode, Path: path, Mode: m} }

func gone(path string) api.Edit { return api.Edit{Kind: api.EdGone, Path: path} }

func table(name, text string) api.Edit { return file("/tab/"+name, text) }

// tree is a file system and its disk.
type tree struct {
	d *disk.Disk
	f *blockfs.FS
}

func bare(t *testing.T) tree {
	t.Helper()
	d, e := disk.New(700)
	if e != api.OK {
		t.Fatal(e)
	}
	if e := blockfs.Format(d); e != api.OK {
		t.Fatal(e)
	}
	return opened(t, d)
}

func opened(t *testing.T, d *disk.Disk) tree {
	t.Helper()
	f, e := blockfs.Open(d)
	if e != api.OK {
		t.Fatal(e)
	}
	return tree{d, f}
}

// made is a tree with /tab, and what edits make.
func made(t *testing.T, l ...api.Edit) tree {
	t.Helper()
	x := bare(t)
	x.do(t, dir("/tab"))
	for _, edit := range l {
		x.do(t, edit)
	}
	return x
}

func (x tree) do(t *testing.T, l ...api.Edit) {
	t.Helper()
	if e := x.f.Do(l); e != api.OK {
		t.Fatalf("Do(%v): %d", l, e)
	}
}

func (x tree) clone(t *testing.T) tree {
	t.Helper()
	return opened(t, x.d.Clone())
}

// res is a resource as it is told; its parameters are written name and value in turn.
func res(kind, title string, words ...string) api.Resource {
	r := api.Resource{Type: kind, Title: title}
	for i := 0; i < len(words); i += 2 {
		r.P = append(r.P, api.Param{Name: words[i], Value: words[i+1]})
	}
	return r
}

// full is a resource with all its parameters.
func full(kind, title string, words ...string) api.Resource {
	r, e := resource.Full(res(kind, title, words...))
	if e != api.OK {
		panic(kind + title)
	}
	return r
}

func inState(kind, title, state string) api.Resource { return full(kind, title, "ensure", state) }

func linkTo(title, target string) api.Resource {
	return full("file", title, "ensure", "link", "target", target)
}

func purged(title string) api.Resource {
	return full("file", title, "ensure", "directory", "purge", "true")
}

func of(l ...api.Resource) api.Catalog { return api.Catalog{Version: 1, Node: "n1", R: l} }

// copied is a catalog that shares nothing with c.
func copied(c api.Catalog) api.Catalog {
	c.R = slices.Clone(c.R)
	for i := range c.R {
		c.R[i].P = slices.Clone(c.R[i].P)
	}
	c.E = slices.Clone(c.E)
	return c
}

func sameEdits(a, b []api.Edit) bool {
	return slices.EqualFunc(a, b, func(x, y api.Edit) bool {
		return x.Kind == y.Kind && x.Path == y.Path && x.Mode == y.Mode && string(x.Bytes) == string(y.Bytes)
	})
}

func sameRows(a, b []api.Row) bool {
	return slices.EqualFunc(a, b, func(x, y api.Row) bool { return x.Key == y.Key && slices.Equal(x.Cells, y.Cells) })
}

// paths is what is at each path of a tree.
type paths map[string]api.Thing

func (x tree) paths(t *testing.T) paths {
	t.Helper()
	m := paths{}
	x.walk(t, "/", m)
	return m
}

func (x tree) walk(t *testing.T, path string, m paths) {
	t.Helper()
	s, e := x.f.Stat(path)
	if e != api.OK {
		t.Fatalf("Stat(%s): %d", path, e)
	}
	thing := api.Thing{Path: path, Kind: s.Kind, Mode: s.Mode}
	if s.Kind != api.KindDir {
		thing.Bytes, _ = x.f.Read(path)
	}
	m[path] = thing
	names, _ := x.f.List(path)
	for _, name := range names {
		x.walk(t, strings.TrimSuffix(path, "/")+"/"+name, m)
	}
}

// differing is the paths at which two trees differ, rising.
func differing(a, b paths) []string {
	var l []string
	for p, x := range a {
		y, is := b[p]
		if !is || x.Kind != y.Kind || x.Mode != y.Mode || string(x.Bytes) != string(y.Bytes) {
			l = append(l, p)
		}
	}
	for p := range b {
		if _, is := a[p]; !is {
			l = append(l, p)
		}
	}
	slices.Sort(l)
	return l
}

// plan asks for a plan. It is the same when it is asked for again, whatever was made of the first one, it writes nothing, and it leaves the catalog as it is.
func (x tree) plan(t *testing.T, c api.Catalog, i int) ([]api.Edit, api.Errno) {
	t.Helper()
	before, writes, was := copied(c), x.d.Writes(), x.paths(t)
	l, e := provider.Plan(x.f, c, i)
	kept := slices.Clone(l)
	for k := range kept {
		kept[k].Bytes = slices.Clone(l[k].Bytes)
		spoil(l[k].Bytes)
	}
	again, e2 := provider.Plan(x.f, c, i)
	if e != e2 || !sameEdits(kept, again) {
		t.Fatalf("Plan(%v): %v, %d; asked again %v, %d", c.R, kept, e, again, e2)
	}
	if x.d.Writes() != writes || len(differing(was, x.paths(t))) > 0 {
		t.Fatalf("Plan(%v) changed the tree", c.R)
	}
	if !slices.EqualFunc(c.R, before.R, func(a, b api.Resource) bool {
		return a.Type == b.Type && a.Title == b.Title && slices.Equal(a.P, b.P)
	}) || !slices.Equal(c.E, before.E) {
		t.Fatalf("Plan changed the catalog %v to %v", before, c)
	}
	return kept, e
}

// spoil changes bytes of an answer, and those behind them.
func spoil(b []byte) {
	for i := range b[:cap(b)] {
		b[:cap(b)][i] ^= 0x55
	}
}

// wantPlan: the plan for a resource has just these edits; once they are done, there are none any more.
func (x tree) wantPlan(t *testing.T, c api.Catalog, i int, want ...api.Edit) {
	t.Helper()
	l, e := x.plan(t, c, i)
	if e != api.OK || !sameEdits(l, want) {
		t.Fatalf("Plan(%s, %d): %v, %d; want %v", resource.Name(c.R[i]), i, l, e, want)
	}
	y := x.clone(t)
	y.do(t, l...)
	if l, e := y.plan(t, c, i); e != api.OK || len(l) > 0 {
		t.Fatalf("Plan(%s, %d) behind its Do: %v, %d", resource.Name(c.R[i]), i, l, e)
	}
}

// wantOne is wantPlan for a catalog of one resource.
func (x tree) wantOne(t *testing.T, r api.Resource, want ...api.Edit) {
	t.Helper()
	x.wantPlan(t, of(r), 0, want...)
}

// wantNot: there is no plan, but this error.
func (x tree) wantNot(t *testing.T, c api.Catalog, i int, want api.Errno) {
	t.Helper()
	if l, e := x.plan(t, c, i); e != want || l != nil {
		t.Fatalf("Plan(%v, %d): %v, %d; want %d", c.R, i, l, e, want)
	}
}

// rowsOf is rows, each told as its key and its cells with : between.
func rowsOf(words ...string) []api.Row {
	var l []api.Row
	for _, s := range words {
		parts := strings.Split(s, ":")
		l = append(l, api.Row{Key: parts[0], Cells: parts[1:]})
	}
	return l
}

func row(word string) api.Row { return rowsOf(word)[0] }

// wantRows: the table has just these rows.
func (x tree) wantRows(t *testing.T, table string, want ...string) {
	t.Helper()
	l, e := provider.Rows(x.f, table)
	if e != api.OK || !sameRows(l, rowsOf(want...)) {
		t.Fatalf("Rows(%s): %v, %d; want %v", table, l, e, want)
	}
	for _, r := range l {
		for i := range r.Cells[:cap(r.Cells)] {
			r.Cells[:cap(r.Cells)][i] = "spoilt"
		}
	}
	if again, e := provider.Rows(x.f, table); e != api.OK || !sameRows(again, rowsOf(want...)) {
		t.Fatalf("Rows(%s), asked again: %v, %d; want %v", table, again, e, want)
	}
}

func (x tree) wantNoRows(t *testing.T, table string, want api.Errno) {
	t.Helper()
	if l, e := provider.Rows(x.f, table); e != want || l != nil {
		t.Fatalf("Rows(%s): %v, %d; want %d", table, l, e, want)
	}
}

// setRow asks for the edits of a row, which change neither the tree nor the row.
func (x tree) setRow(t *testing.T, table string, r api.Row, gone bool) ([]api.Edit, api.Errno) {
	t.Helper()
	room := append(slices.Clone(r.Cells), "room", "more")
	given := api.Row{Key: r.Key, Cells: room[:len(r.Cells)]}
	writes := x.d.Writes()
	l, e := provider.SetRow(x.f, table, given, gone)
	if !slices.Equal(room, append(slices.Clone(r.Cells), "room", "more")) {
		t.Fatalf("SetRow(%s, %v) changed the cells to %v", table, r, room)
	}
	if x.d.Writes() != writes {
		t.Fatalf("SetRow(%s, %v) wrote", table, r)
	}
	return l, e
}

// wantSet: the row's edit lays the table's file with this text; behind it there is no edit any more.
func (x tree) wantSet(t *testing.T, table string, r api.Row, gone bool, text string) {
	t.Helper()
	l, e := x.setRow(t, table, r, gone)
	if e != api.OK || !sameEdits(l, []api.Edit{file("/tab/"+table, text)}) {
		t.Fatalf("SetRow(%s, %v, %v): %v, %d; want %q", table, r, gone, l, e, text)
	}
	y := x.clone(t)
	y.do(t, l...)
	y.wantAlready(t, table, r, gone)
}

// wantAlready: the table is already so.
func (x tree) wantAlready(t *testing.T, table string, r api.Row, gone bool) {
	t.Helper()
	if l, e := x.setRow(t, table, r, gone); e != api.OK || len(l) > 0 {
		t.Fatalf("SetRow(%s, %v, %v): %v, %d; want no edits", table, r, gone, l, e)
	}
}

func (x tree) wantNotSet(t *testing.T, table string, r api.Row, gone bool, want api.Errno) {
	t.Helper()
	if l, e := x.setRow(t, table, r, gone); e != want || l != nil {
		t.Fatalf("SetRow(%s, %v, %v): %v, %d; want %d", table, r, gone, l, e, want)
	}
}

// dice tells numbers that look thrown, the same ones in each run.
type dice uint32

func (x *dice) next(n int) int {
	*x = *x*1664525 + 1013904223
	return int(*x>>16) % n
}

func pick[T any](x *dice, l ...T) T { return l[x.next(len(l))] }
