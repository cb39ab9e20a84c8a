package provider_test

import (
	"math"
	"slices"
	"strings"
	"testing"

	"majordomo/api"
	"majordomo/provider"
)

// P9.3: accounts, groups and packages, present and absent.
func TestRecords(t *testing.T) {
	for _, c := range []struct {
		table, present, changed, asIs string
		r, absent                     api.Resource
	}{
		{"accounts", "m:7:ops:/bin/x", "m:8:ops:/bin/x", "m:1000:users:/bin/sh", full("account", "m", "group", "ops", "shell", "/bin/x", "uid", "7"), inState("account", "m", "absent")},
		{"accounts", "m:7:ops:", "m:7:ops:/bin/x", "m:1000:users:/bin/sh", full("account", "m", "group", "ops", "shell", "", "uid", "7"), inState("account", "m", "absent")},
		{"groups", "m:7", "m:8", "m:1000", full("group", "m", "gid", "7"), inState("group", "m", "absent")},
		{"packages", "m:7-a", "m:7-b", "m:latest", full("package", "m", "version", "7-a"), inState("package", "m", "absent")},
	} {
		x := made(t)
		x.wantOne(t, c.r, table(c.table, c.present+"\n"))
		x.wantOne(t, c.absent)
		x.wantOne(t, full(c.r.Type, "m"), table(c.table, c.asIs+"\n"))
		x.do(t, table(c.table, c.changed+"\n"))
		x.wantOne(t, c.r, table(c.table, c.present+"\n"))
		x.wantOne(t, c.absent, table(c.table, ""))
		x.do(t, table(c.table, "a"+c.present+"\n"+c.present+"\nz"+c.present+"\n"))
		x.wantOne(t, c.r)
		x.wantOne(t, c.absent, table(c.table, "a"+c.present+"\nz"+c.present+"\n"))
		x.do(t, table(c.table, "a"+c.present+"\nz"+c.present+"\n"))
		x.wantOne(t, c.r, table(c.table, "a"+c.present+"\n"+c.present+"\nz"+c.present+"\n"))
		x.wantOne(t, c.absent)
		for other := range sample {
			if other != c.table {
				x.do(t, table(other, "bad"))
			}
		}
		x.wantOne(t, c.absent)
		for _, bad := range []api.Edit{table(c.table, "m"), table(c.table, "m:1:1\n")} {
			x.do(t, bad)
			x.wantNot(t, of(c.r), 0, api.ErrCorrupt)
			x.wantNot(t, of(c.absent), 0, api.ErrCorrupt)
		}
	}
}

// P9.3: the rows of titles and values as long as there may be.
func TestLongRecords(t *testing.T) {
	key, word := strings.Repeat("k", 32), strings.Repeat("w", 64)
	x := made(t)
	x.wantOne(t, full("account", key, "group", key, "shell", word, "uid", "00000"), table("accounts", key+":00000:"+key+":"+word+"\n"))
	x.wantOne(t, full("group", key, "gid", "99999"), table("groups", key+":99999\n"))
	x.wantOne(t, full("package", key, "version", word), table("packages", key+":"+word+"\n"))
	x.wantOne(t, full("service", key), table("services", key+":running:0\n"))
	x.wantOne(t, full("group", "/", "gid", "1"), table("groups", "/:1\n"))
}

// P9.3: a service keeps how often it was refreshed.
func TestServices(t *testing.T) {
	for _, state := range []string{"running", "stopped"} {
		r := inState("service", "s", state)
		x := made(t)
		x.wantOne(t, r, table("services", "s:"+state+":0\n"))
		x.do(t, table("services", "a:running:1\nz:stopped:2\n"))
		x.wantOne(t, r, table("services", "a:running:1\ns:"+state+":0\nz:stopped:2\n"))
		for _, n := range []string{"0", "1", "00", "999999999", "", "x", strings.Repeat("w", 64)} {
			for _, now := range []string{"running", "stopped", "", "odd"} {
				x.do(t, table("services", "a:running:1\ns:"+now+":"+n+"\nz:stopped:2\n"))
				if now == state {
					x.wantOne(t, r)
				} else {
					x.wantOne(t, r, table("services", "a:running:1\ns:"+state+":"+n+"\nz:stopped:2\n"))
				}
			}
		}
		for _, bad := range []api.Edit{table("services", "s:running\n"), table("services", "s:running:1:2\n"), table("services", "s:running:1")} {
			x.do(t, bad)
			x.wantNot(t, of(r), 0, api.ErrCorrupt)
		}
		x.do(t, gone("/tab/services"), dir("/tab/services"))
		x.wantNot(t, of(r), 0, api.ErrCorrupt)
	}
	x := made(t)
	for _, c := range "ABCDEFGHIJKLMNOPQRSTUVWXYZabcdef" {
		l, _ := provider.SetRow(x.f, "services", row(string(c)+":stopped:0"), false)
		x.do(t, l...)
	}
	x.wantNot(t, of(full("service", "s")), 0, api.ErrLong)
	x.wantOne(t, inState("service", "f", "stopped"))
}

// P9.3: a table's file needs no directories on the way, and the plan makes none.
func TestNoDirectoryOfTables(t *testing.T) {
	x := bare(t)
	for _, r := range []api.Resource{full("account", "a"), full("group", "a"), full("package", "a"), full("service", "a")} {
		l, e := x.plan(t, of(r), 0)
		if e != api.OK || len(l) != 1 || l[0].Path != "/tab/"+r.Type+"s" || l[0].Kind != api.EdFile || l[0].Mode != 420 {
			t.Errorf("Plan(%v): %v, %d", r, l, e)
		}
		if r.Type != "service" {
			x.wantOne(t, inState(r.Type, "a", "absent"))
		}
	}
}

// P9.3: a catalog that catalog.Check refuses has no plan, whatever the number; and only a resource's number has one.
func TestArguments(t *testing.T) {
	x := made(t, file("/a", ""), table("groups", "bad"))
	sound := of(full("account", "a"), full("file", "/b"), full("service", "s"))
	numbers := []int{math.MinInt, -256, -3, -2, -1, 0, 1, 2, 3, 4, 32, 255, 256, 258, 1 << 32, math.MaxInt}
	for _, i := range numbers {
		if i < 0 || i > 2 {
			x.wantNot(t, sound, i, api.ErrArg)
		}
		x.wantNot(t, of(), i, api.ErrArg)
		for want, c := range map[api.Errno]api.Catalog{
			api.ErrCatalog: {Version: -1, Node: "n1", R: sound.R},
			api.ErrLong:    {Version: 1, Node: "n1", R: make([]api.Resource, 33)},
			api.ErrType:    of(full("account", "a"), res("disk", "b")),
			api.ErrTitle:   of(full("account", "a"), res("file", "/tab/groups")),
			api.ErrParam:   of(full("account", "a"), res("file", "/b", "ensure", "link")),
			api.ErrTwice:   of(full("account", "a"), full("account", "a")),
			api.ErrBlocked: of(full("file", "/c"), full("file", "/c/d")),
			api.ErrEdge:    {Version: 1, Node: "n1", R: sound.R, E: []api.Edge{{From: 0, To: 3}}},
		} {
			x.wantNot(t, c, i, want)
		}
		x.wantNot(t, api.Catalog{}, i, api.ErrCatalog)
		x.wantNot(t, api.Catalog{Version: 65536, Node: "n1", R: sound.R}, i, api.ErrCatalog)
		x.wantNot(t, of(full("file", "/b"), full("account", "a")), i, api.ErrCatalog)
		x.wantNot(t, of(res("file", "/b")), i, api.ErrCatalog) // not full
		x.wantNot(t, of(res("file", "/tab")), i, api.ErrTitle)
		x.wantNot(t, of(res("file", "/run/owed")), i, api.ErrTitle)
		x.wantNot(t, of(res("file", "/")), i, api.ErrTitle)
	}
	x.wantPlan(t, sound, 0, table("accounts", "a:1000:users:/bin/sh\n"))
	x.wantPlan(t, sound, 1, file("/b", ""))
	x.wantPlan(t, sound, 2, table("services", "s:running:0\n"))
	with := sound
	with.E = []api.Edge{{From: 0, To: 1, Notify: true}, {From: 2, To: 0}}
	x.wantPlan(t, with, 1, file("/b", ""))
}

// P9.2: a path that a file resource has as its title, or that one is below.
func TestNamed(t *testing.T) {
	c := of(full("account", "/acc/x"), full("file", "/a/b"), inState("file", "/c", "absent"), full("file", "/d-e"), full("group", "/g"), full("package", "/p"), full("service", "/s"))
	for path, want := range map[string]bool{
		"/a/b": true, "/a": true, "": true, "/c": true, "/d-e": true,
		"/": false, "/a/": false, "/a/b/": false, "/a/b/c": false, "/a/bb": false, "/ab": false, "/d": false, "/d-": false, "/c/x": false, "/b": false, "a": false, "b": false, "a/b": false, "/A": false, "//a": false, "/a//b": false,
		"/acc": false, "/acc/x": false, "/g": false, "/p": false, "/s": false, "\x00": false,
	} {
		if provider.Named(c, path) != want {
			t.Errorf("Named(%q): %v", path, !want)
		}
	}
	for _, c := range []api.Catalog{{}, of(), of(full("group", "/a"))} {
		for _, path := range []string{"", "/", "/a"} {
			if provider.Named(c, path) {
				t.Errorf("Named(%v, %q)", c, path)
			}
		}
	}
}

// P9.2: any catalog, also one that none may be.
func TestNamedOfAny(t *testing.T) {
	c := api.Catalog{Version: -1, R: []api.Resource{res("file", "x//y"), res("disk", "/q"), res("", "/r"), res("File", "/t"), res("file", "/z/"), res("file", "x//y"), res("file", "/tab/groups")}, E: []api.Edge{{From: 9, To: 9}}}
	for path, want := range map[string]bool{
		"x": true, "x/": true, "x//y": true, "/z": true, "/z/": true, "/tab": true, "/tab/groups": true, "": true,
		"x//": false, "y": false, "/q": false, "/r": false, "/t": false, "/": false, "/z//": false, "/tab/": false, "/tab/group": false,
	} {
		if provider.Named(c, path) != want {
			t.Errorf("Named(%q): %v", path, !want)
		}
	}
	if provider.Named(of(res("file", "")), "/") || !provider.Named(of(res("file", "")), "") || !provider.Named(of(res("file", "//")), "/") {
		t.Error("empty titles and paths")
	}
	many := of(slices.Repeat([]api.Resource{full("group", "g")}, 1000)...)
	many.R = append(many.R, full("file", "/last/one"))
	if !provider.Named(many, "/last") || provider.Named(many, "/las") {
		t.Error("the last of many")
	}
}
