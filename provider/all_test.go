package provider_test

import (
	"slices"
	"strconv"
	"strings"
	"testing"

	"majordomo/api"
	"majordomo/catalog"
	"majordomo/provider"
	"majordomo/resource"
)

// kindAt is the kind of what is at a path, KindNone if nothing is.
func (m paths) kindAt(path string) int { return m[path].Kind }

func (m paths) names(dir string) []string {
	var l []string
	for p := range m {
		if name, is := strings.CutPrefix(p, dir+"/"); is && !strings.Contains(name, "/") {
			l = append(l, name)
		}
	}
	slices.Sort(l)
	return l
}

// planned is a plan by the document's words, of the paths of a tree alone.
func (m paths) planned(c api.Catalog, i int) ([]api.Edit, api.Errno) {
	r := c.R[i]
	if r.Type != "file" {
		return m.plannedRow(r)
	}
	state, _ := resource.Get(r, "ensure")
	if state == "absent" {
		switch {
		case m.kindAt(r.Title) == api.KindNone:
			return nil, api.OK
		case m.kindAt(r.Title) == api.KindDir && len(m.names(r.Title)) > 0:
			return nil, api.ErrBlocked
		}
		return []api.Edit{gone(r.Title)}, api.OK
	}
	var l []api.Edit
	for k := 1; k < len(r.Title); k++ {
		if r.Title[k] != '/' {
			continue
		}
		switch m.kindAt(r.Title[:k]) {
		case api.KindNone:
			l = append(l, dir(r.Title[:k]))
		case api.KindFile, api.KindLink:
			return nil, api.ErrBlocked
		}
	}
	digits, _ := resource.Get(r, "mode")
	octal, _ := strconv.ParseInt("0"+digits, 8, 32)
	now := m[r.Title]
	switch state {
	case "directory":
		return append(l, m.plannedDir(c, r, int(octal))...), api.OK
	case "link":
		target, _ := resource.Get(r, "target")
		return plannedBytes(l, now, link(r.Title, target), api.KindLink)
	}
	content, _ := resource.Get(r, "content")
	return plannedBytes(l, now, fileOf(r.Title, int(octal), content), api.KindFile)
}

func plannedBytes(l []api.Edit, now api.Thing, want api.Edit, kind int) ([]api.Edit, api.Errno) {
	switch now.Kind {
	case api.KindDir:
		return nil, api.ErrBlocked
	case api.KindNone:
		return append(l, want), api.OK
	case kind:
		if now.Mode == want.Mode && string(now.Bytes) == string(want.Bytes) {
			return l, api.OK
		}
		return append(l, want), api.OK
	}
	return append(l, gone(want.Path), want), api.OK
}

func (m paths) plannedDir(c api.Catalog, r api.Resource, octal int) []api.Edit {
	switch now := m[r.Title]; now.Kind {
	case api.KindNone:
		return []api.Edit{dirOf(r.Title, octal)}
	case api.KindDir:
		var l []api.Edit
		if now.Mode != octal {
			l = append(l, mode(r.Title, octal))
		}
		if purge, _ := resource.Get(r, "purge"); purge == "true" {
			for _, name := range m.names(r.Title) {
				if !named(c, r.Title+"/"+name) {
					l = append(l, gone(r.Title+"/"+name))
				}
			}
		}
		return l
	}
	return []api.Edit{gone(r.Title), dirOf(r.Title, octal)}
}

func named(c api.Catalog, path string) bool {
	return slices.ContainsFunc(c.R, func(r api.Resource) bool {
		return r.Type == "file" && (r.Title == path || strings.HasPrefix(r.Title, path+"/"))
	})
}

// plannedRow is the plan for a row in a table whose file is sound or missing: its lines are sorted anew.
func (m paths) plannedRow(r api.Resource) ([]api.Edit, api.Errno) {
	path := "/tab/" + r.Type + "s"
	if now := m[path]; now.Kind != api.KindNone && now.Kind != api.KindFile || strings.HasPrefix(string(now.Bytes), "!") {
		return nil, api.ErrCorrupt
	}
	text := string(m[path].Bytes)
	var lines []string
	refreshed := "0"
	for _, s := range strings.SplitAfter(text, "\n") {
		if strings.HasPrefix(s, r.Title+":") {
			refreshed = strings.TrimSuffix(s[strings.LastIndex(s, ":")+1:], "\n")
		} else if s != "" {
			lines = append(lines, s)
		}
	}
	value := func(name string) string {
		s, _ := resource.Get(r, name)
		return s
	}
	if value("ensure") != "absent" {
		cells := map[string]string{
			"account": value("uid") + ":" + value("group") + ":" + value("shell"),
			"group":   value("gid"), "package": value("version"), "service": value("ensure") + ":" + refreshed,
		}
		lines = append(lines, r.Title+":"+cells[r.Type]+"\n")
		slices.Sort(lines)
	}
	if next := strings.Join(lines, ""); next != text {
		return []api.Edit{file(path, next)}, api.OK
	}
	return nil, api.OK
}

// someTree is a tree of a few paths, thrown with dice.
func someTree(t *testing.T, x *dice) tree {
	y := bare(t)
	l := []api.Edit{dir("/tab")}
	if x.next(8) == 0 {
		l[0] = pick(x, file("/tab", "x"), link("/tab", "/d"), dir("/tab"))
	}
	for range x.next(14) {
		p := pick(x, "/a", "/b") + pick(x, "", "/a", "/b", "/a/a", "/a/b", "/b/a", "/a-")
		l = append(l, pick(x, dir(p), dir(p), dirOf(p, 448), file(p, "x"), file(p, "y"), fileOf(p, 384, "x"), link(p, "/x"), link(p, "/y")))
	}
	for _, name := range []string{"accounts", "groups", "packages", "services"} {
		cells := map[string]string{"accounts": ":1:g:/bin/sh\n", "groups": ":1\n", "packages": ":latest\n", "services": ":running:4\n"}[name]
		other := strings.NewReplacer("1", "2", "latest", "new", "running", "stopped").Replace(cells)
		text := pick(x, "", "a"+cells) + pick(x, "", "b"+cells, "b"+other) + pick(x, "", "c"+other)
		l = append(l, pick(x, table(name, text), table(name, text), table(name, text), table(name, "!"), dir("/tab/"+name), link("/tab/"+name, "x"), file("/other", "")))
	}
	for _, edit := range l {
		y.f.Do([]api.Edit{edit}) // what finds no place is left out
	}
	return y
}

// someCatalog is a sound one, thrown with dice.
func someCatalog(x *dice) api.Catalog {
	for {
		var l []api.Resource
		for _, p := range []string{"/a", "/a-/b", "/a/a", "/a/a/a", "/a/a/b", "/a/b", "/b", "/b/a", "/b/a/b", "/b/b"} {
			if x.next(3) == 0 {
				l = append(l, pick(x, full("file", p, "content", "x"), full("file", p, "content", "x", "mode", "0600"), inState("file", p, "absent"), linkTo(p, "/x"),
					inState("file", p, "directory"), purged(p), full("file", p, "ensure", "directory", "mode", "0700", "purge", "true")))
			}
		}
		slices.SortFunc(l, func(a, b api.Resource) int { return strings.Compare(a.Title, b.Title) })
		rows := []api.Resource{full("group", "b", "gid", pick(x, "1", "2")), full("package", "b"), inState("service", "b", pick(x, "running", "stopped"))}
		if x.next(2) == 0 {
			rows[0], rows[1] = inState("group", "b", "absent"), inState("package", "b", "absent")
		}
		account := pick(x, full("account", "b", "group", "g", "uid", "1"), inState("account", "b", "absent"))
		c := of(append(append([]api.Resource{account}, l...), rows...)...)
		if catalog.Check(c) == api.OK {
			return c
		}
	}
}

// permitted tells whether a plan for a resource may change what is at a path.
func permitted(c api.Catalog, r api.Resource, before, after paths, path string) bool {
	if r.Type != "file" {
		return path == "/tab/"+r.Type+"s"
	}
	if path == r.Title {
		return true
	}
	if strings.HasPrefix(r.Title, path+"/") { // on the way: only made, never changed
		_, was := before[path]
		return !was && after[path].Kind == api.KindDir && after[path].Mode == 493
	}
	below, is := strings.CutPrefix(path, r.Title+"/")
	purge, _ := resource.Get(r, "purge")
	entry, _, _ := strings.Cut(below, "/")
	_, still := after[path]
	return is && purge == "true" && !still && !named(c, r.Title+"/"+entry)
}

// onlyRow tells whether two texts of a table differ in rows of this key alone.
func onlyRow(a, b []byte, key string) bool {
	others := func(text []byte) []string {
		return slices.DeleteFunc(strings.Split(string(text), "\n"), func(s string) bool { return strings.HasPrefix(s, key+":") })
	}
	return slices.Equal(others(a), others(b))
}

// P9.3, P9.4: many trees and catalogs: each plan is that of the document's words, changes nothing else, and leaves nothing to do.
func TestManyPlans(t *testing.T) {
	x := dice(9)
	done := map[string]int{}
	for range 1200 {
		y, c := someTree(t, &x), someCatalog(&x)
		before := y.paths(t)
		for i, r := range c.R {
			want, wantE := before.planned(c, i)
			l, e := y.plan(t, c, i)
			if e != wantE || !sameEdits(l, want) {
				t.Fatalf("Plan(%v, %d) of %v: %v, %d; want %v, %d", c.R, i, before, l, e, want, wantE)
			}
			if e != api.OK {
				done["refused"]++
				continue
			}
			z := y.clone(t)
			if e := z.f.Do(l); e != api.OK {
				if before.kindAt("/tab") == api.KindDir || r.Type == "file" {
					t.Fatalf("Do(%v): %d", l, e)
				}
				done["no /tab"]++
				continue
			}
			after := z.paths(t)
			for _, p := range differing(before, after) {
				if !permitted(c, r, before, after, p) {
					t.Fatalf("%s of %v changed %s", resource.Name(r), c.R, p)
				}
				if r.Type != "file" && !onlyRow(before[p].Bytes, after[p].Bytes, r.Title) {
					t.Fatalf("%s changed %s from %q to %q", resource.Name(r), p, before[p].Bytes, after[p].Bytes)
				}
				done["changed"]++
			}
			if l, e := z.plan(t, c, i); e != api.OK || len(l) > 0 {
				t.Fatalf("Plan(%v, %d) behind its Do: %v, %d", c.R, i, l, e)
			}
			done["done"]++
		}
	}
	for _, what := range []string{"refused", "no /tab", "changed", "done"} {
		if done[what] < 100 {
			t.Errorf("%s: %d times", what, done[what])
		}
	}
}

// P9.1, P9.2, P9.3: while the power is off, what is told is what is there, or ErrPower.
func TestPowerOff(t *testing.T) {
	x := made(t, table("groups", "a:1\n"), file("/d", ""))
	c := of(full("file", "/d/e"), full("group", "a", "gid", "1"), full("service", "s"))
	wants := []struct {
		l []api.Edit
		e api.Errno
	}{{nil, api.ErrBlocked}, {nil, api.OK}, {[]api.Edit{table("services", "s:running:0\n")}, api.OK}}
	x.d.Fuse(0)
	x.f.Do([]api.Edit{file("/new", "")})
	if x.d.On() {
		t.Fatal("the power is on")
	}
	for i, want := range wants {
		l, e := provider.Plan(x.f, c, i)
		if e == api.ErrPower && l == nil {
			continue
		}
		if e != want.e || !sameEdits(l, want.l) {
			t.Errorf("Plan(%d): %v, %d", i, l, e)
		}
	}
	if l, e := provider.Rows(x.f, "groups"); e != api.ErrPower && (e != api.OK || !sameRows(l, rowsOf("a:1"))) {
		t.Errorf("Rows: %v, %d", l, e)
	}
	if l, e := provider.SetRow(x.f, "groups", row("a:1"), false); e != api.ErrPower && e != api.OK || l != nil {
		t.Errorf("SetRow: %v, %d", l, e)
	}
}
