package provider_test

import (
	"fmt"
	"strings"
	"testing"

	"majordomo/api"
)

// P9.3: the document's examples.
func TestExamples(t *testing.T) {
	x := made(t)
	x.wantOne(t, full("file", "/a/b", "content", "x"), dir("/a"), file("/a/b", "x"))
	x.wantOne(t, full("group", "ops", "gid", "10"), table("groups", "ops:10\n"))
	x.do(t, dir("/a"))
	x.wantNot(t, of(full("file", "/a")), 0, api.ErrBlocked)
	x.do(t, file("/a/b", ""), file("/a/c", ""))
	x.wantPlan(t, of(purged("/a"), full("file", "/a/b")), 0, gone("/a/c"))
}

// P9.3: for each ensure, each kind of node at the path.
func TestAtThePath(t *testing.T) {
	for _, p := range []string{"/p", "/d/p", "/d/d/p"} {
		there := map[string][]api.Edit{
			"nothing": nil, "file": {fileOf(p, 420, "x")}, "another file": {fileOf(p, 420, "y")}, "another mode": {fileOf(p, 384, "x")},
			"link": {link(p, "/x")}, "another link": {link(p, "/y")}, "dir": {dir(p)}, "dir of another mode": {dirOf(p, 448)}, "dir with an entry": {dir(p), file(p+"/e", "")},
		}
		newFile, newDir, newLink, off := file(p, "x"), dir(p), link(p, "/x"), gone(p)
		for _, want := range []struct {
			r     api.Resource
			edits map[string][]api.Edit
			none  []string
			not   []string
		}{
			{full("file", p, "content", "x"), map[string][]api.Edit{
				"nothing": {newFile}, "another file": {newFile}, "another mode": {newFile}, "link": {off, newFile}, "another link": {off, newFile},
			}, []string{"file"}, []string{"dir", "dir of another mode", "dir with an entry"}},
			{inState("file", p, "directory"), map[string][]api.Edit{
				"nothing": {newDir}, "file": {off, newDir}, "another file": {off, newDir}, "another mode": {off, newDir}, "link": {off, newDir}, "another link": {off, newDir}, "dir of another mode": {mode(p, 493)},
			}, []string{"dir", "dir with an entry"}, nil},
			{purged(p), map[string][]api.Edit{
				"nothing": {newDir}, "file": {off, newDir}, "another file": {off, newDir}, "another mode": {off, newDir}, "link": {off, newDir}, "another link": {off, newDir}, "dir of another mode": {mode(p, 493)},
				"dir with an entry": {gone(p + "/e")},
			}, []string{"dir"}, nil},
			{linkTo(p, "/x"), map[string][]api.Edit{
				"nothing": {newLink}, "file": {off, newLink}, "another file": {off, newLink}, "another mode": {off, newLink}, "another link": {newLink},
			}, []string{"link"}, []string{"dir", "dir of another mode", "dir with an entry"}},
			{inState("file", p, "absent"), map[string][]api.Edit{
				"file": {off}, "another file": {off}, "another mode": {off}, "link": {off}, "another link": {off}, "dir": {off}, "dir of another mode": {off},
			}, []string{"nothing"}, []string{"dir with an entry"}},
		} {
			for why, l := range there {
				x := made(t, dir("/d"), dir("/d/d"))
				for _, edit := range l {
					x.do(t, edit)
				}
				if edits, is := want.edits[why]; is {
					x.wantOne(t, want.r, edits...)
				}
				for _, s := range want.none {
					if s == why {
						x.wantOne(t, want.r)
					}
				}
				for _, s := range want.not {
					if s == why {
						x.wantNot(t, of(want.r), 0, api.ErrBlocked)
					}
				}
			}
			if n := len(want.edits) + len(want.none) + len(want.not); n != len(there) {
				t.Errorf("%v: %d cases of %d", want.r, n, len(there))
			}
		}
	}
}

// eachGoal is a resource at a path for each state but absent, with the edit that makes it.
func eachGoal(p string) map[string]struct {
	r    api.Resource
	edit api.Edit
} {
	type one = struct {
		r    api.Resource
		edit api.Edit
	}
	return map[string]one{
		"file":      {full("file", p, "content", "x", "mode", "0600"), fileOf(p, 384, "x")},
		"directory": {full("file", p, "ensure", "directory", "mode", "0700"), dirOf(p, 448)},
		"purged":    {purged(p), dir(p)},
		"link":      {linkTo(p, "/x"), link(p, "/x")},
	}
}

// P9.3: directories on the way are made from where they are missing on, none for what is to be absent.
func TestWay(t *testing.T) {
	const p = "/a/b/c/d/e/f/g/h"
	var way []api.Edit
	for i := 2; i < len(p); i += 2 {
		way = append(way, dir(p[:i]))
	}
	for have := range len(way) + 1 {
		x := made(t)
		for _, edit := range way[:have] {
			edit.Mode = 448 // one that is there stays as it is
			x.do(t, edit)
		}
		for _, g := range eachGoal(p) {
			x.wantOne(t, g.r, append(append([]api.Edit{}, way[have:]...), g.edit)...)
		}
		x.wantOne(t, inState("file", p, "absent"))
	}
	x := made(t)
	for _, g := range eachGoal("/p") {
		x.wantOne(t, g.r, g.edit)
	}
	long := "/" + strings.Repeat("n", 28)
	deep := long + long + long + long + "/abc"
	for _, g := range eachGoal(deep) {
		x.wantOne(t, g.r, dir(long), dir(long+long), dir(long+long+long), dir(long+long+long+long), g.edit)
	}
}

// P9.3: what is no directory stands in the way, wherever on it; of what is to be absent there is nothing behind it.
func TestBlockedWay(t *testing.T) {
	const p = "/a/b/c/d/e/f/g/h"
	for at := 2; at < len(p); at += 2 {
		for _, other := range []api.Edit{file(p[:at], "x"), file(p[:at], ""), fileOf(p[:at], 493, ""), link(p[:at], "/"), link(p[:at], "")} {
			x := made(t)
			for i := 2; i < at; i += 2 {
				x.do(t, dir(p[:i]))
			}
			x.do(t, other)
			for _, g := range eachGoal(p) {
				x.wantNot(t, of(g.r), 0, api.ErrBlocked)
			}
			for _, g := range eachGoal(p[:at] + "/z") {
				x.wantNot(t, of(g.r), 0, api.ErrBlocked)
			}
			x.wantOne(t, inState("file", p, "absent"))
			x.wantOne(t, inState("file", p[:at]+"/z", "absent"))
			x.wantOne(t, inState("file", p[:at], "absent"), gone(p[:at]))
		}
	}
}

// P9.3: a link is not followed, neither on the way nor at its end.
func TestLinksAreNotFollowed(t *testing.T) {
	x := made(t, dir("/real"), file("/real/f", "x"), link("/l", "/real"), link("/m", "/real/f"))
	x.wantNot(t, of(full("file", "/l/f", "content", "x")), 0, api.ErrBlocked)
	x.wantOne(t, inState("file", "/l/f", "absent"))
	x.wantOne(t, full("file", "/m", "content", "x"), gone("/m"), file("/m", "x"))
	x.wantOne(t, full("file", "/m", "content", "/real/f"), gone("/m"), file("/m", "/real/f"))
	x.wantOne(t, purged("/l"), gone("/l"), dir("/l"))
	x.wantOne(t, linkTo("/m", "/real/f"))
	x.wantOne(t, linkTo("/real/f", "/real/f"), gone("/real/f"), link("/real/f", "/real/f"))
}

// P9.3: a mode is what its digits are in base eight.
func TestModes(t *testing.T) {
	for n := range 512 {
		digits := fmt.Sprintf("%04o", n)
		x := made(t)
		f, d := full("file", "/p", "mode", digits), full("file", "/p", "ensure", "directory", "mode", digits)
		x.wantOne(t, f, fileOf("/p", n, ""))
		x.wantOne(t, d, dirOf("/p", n))
		x.do(t, fileOf("/p", n, ""))
		x.wantOne(t, f)
		x.do(t, mode("/p", n^8))
		x.wantOne(t, f, fileOf("/p", n, ""))
		x.do(t, gone("/p"), dirOf("/p", n))
		x.wantOne(t, d)
		for _, other := range []int{n ^ 1, n ^ 256, n + 512, n + 2048} {
			x.do(t, mode("/p", other))
			x.wantOne(t, d, mode("/p", n))
		}
	}
	x := made(t)
	x.wantOne(t, full("file", "/f"), fileOf("/f", 420, ""))
	x.wantOne(t, full("file", "/f", "mode", "0777"), fileOf("/f", 511, ""))
	x.wantOne(t, full("file", "/f", "mode", "0010"), fileOf("/f", 8, ""))
	x.wantOne(t, full("file", "/f", "mode", "0000"), fileOf("/f", 0, ""))
	x.wantOne(t, inState("file", "/f", "directory"), dirOf("/f", 493))
}

// P9.3: contents of any bytes, and of as many as there may be.
func TestContents(t *testing.T) {
	all := make([]byte, 256)
	for i := range all {
		all[i] = byte(i)
	}
	for _, s := range []string{"", "x", "\n", "\x00", string(all), string(all) + string(all), strings.Repeat("x", 512)} {
		x := made(t)
		x.wantOne(t, full("file", "/f", "content", s), file("/f", s))
		x.do(t, file("/f", s))
		x.wantOne(t, full("file", "/f", "content", s))
		x.do(t, file("/f", s+"\x00"))
		x.wantOne(t, full("file", "/f", "content", s), file("/f", s))
		if s != "" {
			x.do(t, file("/f", s[:len(s)-1]))
			x.wantOne(t, full("file", "/f", "content", s), file("/f", s))
		}
	}
	x := made(t)
	far := "/" + strings.Repeat("t", 28)
	far = far + far + far + far + "/abc"
	for _, target := range []string{"/", "/x", "/tab/groups", far} {
		x.wantOne(t, linkTo("/l", target), link("/l", target))
		y := made(t, link("/l", "x"+target[1:]))
		y.wantOne(t, linkTo("/l", target), link("/l", target))
		y.do(t, link("/l", ""))
		y.wantOne(t, linkTo("/l", target), link("/l", target))
	}
}

// P9.3: a purge takes away each entry that no resource names, or is below, by rising names.
func TestPurge(t *testing.T) {
	x := made(t, dir("/d"), file("/d/b", ""), file("/d/B", ""), link("/d/a", "/d/b"), dir("/d/c"), file("/d/c/x", ""), file("/d/c-", ""), dir("/d/e"), dir("/d/e/f"), dir("/dd"), file("/dd/x", ""))
	all := func(except ...string) []api.Edit {
		var l []api.Edit
		for _, name := range []string{"B", "a", "b", "c", "c-", "e"} {
			kept := false
			for _, s := range except {
				kept = kept || s == name
			}
			if !kept {
				l = append(l, gone("/d/"+name))
			}
		}
		return l
	}
	x.wantOne(t, purged("/d"), all()...)
	x.wantOne(t, inState("file", "/d", "directory"))
	for _, name := range []string{"B", "a", "b", "c", "c-", "e"} {
		for _, state := range []string{"file", "directory", "absent"} {
			x.wantPlan(t, of(purged("/d"), inState("file", "/d/"+name, state)), 0, all(name)...)
		}
		x.wantPlan(t, of(purged("/d"), linkTo("/d/"+name, "/")), 0, all(name)...)
		x.wantPlan(t, of(purged("/d"), full("file", "/d/"+name+"/y/z")), 0, all(name)...)
		x.wantPlan(t, of(full("account", "/d/"+name), purged("/d"), full("group", "/d/"+name), full("package", "/d/"+name), full("service", "/d/"+name)), 1, all()...)
	}
	x.wantPlan(t, of(purged("/d"), full("file", "/d/c/x"), full("file", "/d/no"), full("file", "/dd/b"), full("file", "/e")), 0, all("c")...)
	x.wantPlan(t, of(full("file", "/a"), full("file", "/b/d/a"), purged("/d"), inState("file", "/d/a", "absent"), full("file", "/d/b")), 2, all("a", "b")...)
	x.wantPlan(t, of(purged("/d"), purged("/d/c")), 0, all("c")...)
	x.wantPlan(t, of(purged("/d"), purged("/d/c")), 1, gone("/d/c/x"))
	x.wantPlan(t, of(inState("file", "/d", "directory"), purged("/dd")), 1, gone("/dd/x"))
	x.do(t, mode("/d", 448))
	x.wantOne(t, purged("/d"), append([]api.Edit{mode("/d", 493)}, all()...)...)
	x.wantOne(t, full("file", "/d", "ensure", "directory", "mode", "0700", "purge", "true"), all()...)
	x.wantOne(t, full("file", "/d", "ensure", "directory", "mode", "0700"))
	x.do(t, gone("/d"), dir("/d"))
	x.wantOne(t, purged("/d"))
}

// P9.3, P9.4: a directory with as many entries as there may be, and one that lies as deep as one may.
func TestPurgeOfMuch(t *testing.T) {
	x := made(t, dirOf("/d", 0))
	want := []api.Edit{mode("/d", 493)}
	for _, c := range "0123456789ABCXYZ" {
		x.do(t, file("/d/"+string(c), "x"))
		want = append(want, gone("/d/"+string(c)))
	}
	x.wantOne(t, purged("/d"), want...)
	x.wantPlan(t, of(purged("/d"), full("file", "/d/A")), 0, append(want[:11:11], want[12:]...)...)

	const deep = "/1/2/3/4/5/6/7"
	y := made(t)
	for i := 2; i <= len(deep); i += 2 {
		y.do(t, dir(deep[:i]))
	}
	y.do(t, file(deep+"/x", ""), dir(deep+"/y"))
	y.wantOne(t, purged(deep), gone(deep+"/x"), gone(deep+"/y"))
	y.wantOne(t, purged("/1"), gone("/1/2"))
	y.wantPlan(t, of(purged("/1"), inState("file", deep+"/x", "absent")), 0)
	y.do(t, dirOf(deep+"/y", 448))
	y.wantOne(t, purged(deep+"/y"), mode(deep+"/y", 493))
}

// P9.3: what is to be absent.
func TestAbsent(t *testing.T) {
	x := made(t, dir("/d"), dir("/d/e"), file("/f", "x"), link("/l", "/d"))
	absent := func(p string) api.Resource { return inState("file", p, "absent") }
	for _, p := range []string{"/x", "/d/x", "/x/y/z", "/f/x", "/f/x/y", "/l/e", "/d/e/x/y"} {
		x.wantOne(t, absent(p))
	}
	for _, p := range []string{"/f", "/l", "/d/e"} {
		x.wantOne(t, absent(p), gone(p))
	}
	x.wantNot(t, of(absent("/d")), 0, api.ErrBlocked)
	x.wantNot(t, of(absent("/d"), absent("/d/e")), 0, api.ErrBlocked) // whatever the catalog says of the entries
	x.do(t, gone("/d/e"))
	x.wantOne(t, absent("/d"), gone("/d"))
	for _, kind := range []api.Edit{file("/d/x", ""), link("/d/x", ""), dir("/d/x")} {
		y := x.clone(t)
		y.do(t, kind)
		y.wantNot(t, of(absent("/d")), 0, api.ErrBlocked)
	}
}
