package host_test

import (
	"strings"
	"testing"

	"majordomo/api"
	"majordomo/disk"
	"majordomo/host"
)

// busy is a host with much to be done.
func busy(t *testing.T) node {
	t.Helper()
	x := made(t, file("/a", strings.Repeat("old", 50)), dir("/d"), file("/d/x", "1"), dir("/d/y"), link("/d/y/z", "2"),
		services("c:running:9\nr:stopped:1\n"), owed("c", "gone", "r"), fileOf("/run/catalog", 384, strings.Repeat("staged", 100)))
	want(t, "SetMark", x.h.SetMark(api.Mark{Count: 255}), api.OK)
	return x
}

// deeds is a call of each kind that writes.
func deeds() map[string]func(h *host.Host) api.Errno {
	c := notifying("new", "b", "c", "s")
	great := with(of(full("file", "/d", "ensure", "directory", "mode", "0700", "purge", "true"), full("file", "/n/e/w", "content", strings.Repeat("w", 512)), full("service", "a"), full("service", "r")), 0, 2, 1, 1, 3, 1, 2, 3, 1)
	apply := func(c api.Catalog, i int) func(h *host.Host) api.Errno {
		return func(h *host.Host) api.Errno {
			yes, e := h.Apply(c, i)
			if yes != (e == api.OK) {
				return -1
			}
			return e
		}
	}
	return map[string]func(h *host.Host) api.Errno{
		"SetMark":              func(h *host.Host) api.Errno { return h.SetMark(api.Mark{Count: 256, Pending: true}) },
		"Stage":                func(h *host.Host) api.Errno { return h.Stage([]byte(strings.Repeat("next", 300))) },
		"Stage of none":        func(h *host.Host) api.Errno { return h.Stage(nil) },
		"Prune":                func(h *host.Host) api.Errno { return h.Prune(c) },
		"Prune of all":         func(h *host.Host) api.Errno { return h.Prune(api.Catalog{}) },
		"Apply":                apply(c, 0),
		"Apply with a purge":   apply(great, 0),
		"Apply with a way":     apply(great, 1),
		"Apply of a service":   apply(great, 2),
		"Refresh":              func(h *host.Host) api.Errno { return h.Refresh("c") },
		"Refresh with no row":  func(h *host.Host) api.Errno { return h.Refresh("gone") },
		"Refresh of the other": func(h *host.Host) api.Errno { return h.Refresh("r") },
	}
}

// P10.7: the power goes off ahead of each write of each call, and ahead of each write of the Opens behind it.
func TestCutAheadOfEachWrite(t *testing.T) {
	ground := busy(t)
	was := ground.told(t)
	for name, deed := range deeds() {
		done := ground.clone(t)
		want(t, name, deed(done.h), api.OK)
		next := done.kept(t)
		if next == was {
			t.Fatalf("%s did nothing", name)
		}
		seen := map[string]int{}
		for fuse := 0; ; fuse++ {
			x := ground.clone(t)
			x.d.Fuse(fuse)
			e := deed(x.h)
			if e == api.OK {
				if now := x.told(t); now != next {
					t.Fatalf("%s: %s", name, now)
				}
				break
			}
			if e != api.ErrPower || x.d.On() {
				t.Fatalf("%s, fuse %d: %d", name, fuse, e)
			}
			x.d.Boot()
			now := cutOpens(t, x.d)
			if now != was && now != next {
				t.Fatalf("%s, fuse %d: %s", name, fuse, now)
			}
			seen[now]++
		}
		if seen[was] == 0 || seen[next] == 0 && name != "SetMark" {
			t.Errorf("%s: %d cuts left nothing, %d cuts all", name, seen[was], seen[next])
		}
		if name == "SetMark" && seen[was] != 1 {
			t.Errorf("SetMark writes %d blocks", seen[was])
		}
	}
}

// cutOpens tells the state that Open finds, which must be the same behind a cut ahead of each write of another Open.
func cutOpens(t *testing.T, ground *disk.Disk) string {
	t.Helper()
	now := opened(t, ground.Clone()).told(t)
	for fuse := 0; ; fuse++ {
		d := ground.Clone()
		d.Fuse(fuse)
		h, e := host.Open(d)
		if e == api.OK {
			return now
		}
		if e != api.ErrPower || h != nil {
			t.Fatalf("Open, fuse %d: %v, %d", fuse, h, e)
		}
		d.Boot()
		if again := opened(t, d).told(t); again != now {
			t.Fatalf("Open, fuse %d: %s\nwas\n%s", fuse, again, now)
		}
	}
}

// P10.7: what a cut left undone is done by the same call behind it, and what it left done is not done twice.
func TestCallsBehindACut(t *testing.T) {
	ground := busy(t)
	for name, deed := range deeds() {
		done := ground.clone(t)
		want(t, name, deed(done.h), api.OK)
		for fuse := 0; ; fuse++ {
			x := ground.clone(t)
			x.d.Fuse(fuse)
			if deed(x.h) == api.OK {
				break
			}
			x.d.Boot()
			y := opened(t, x.d)
			if e := deed(y.h); e != api.OK && !strings.HasPrefix(name, "Apply") { // one that has nothing to do any more answers false, not true
				t.Fatalf("%s, fuse %d: %d", name, fuse, e)
			}
			if now := y.kept(t); now != done.told(t) {
				t.Fatalf("%s, fuse %d: %s", name, fuse, now)
			}
		}
	}
}

// P10.1, P10.7: the power goes off ahead of each write of Format: there is the host of before, none, or a whole new one.
func TestCutAheadOfEachWriteOfFormat(t *testing.T) {
	for name, ground := range grounds(t, 600) {
		was := ""
		if name == "used" {
			was = opened(t, ground.Clone()).told(t)
		}
		none := 0
		for fuse := 0; ; fuse++ {
			d := ground.Clone()
			d.Fuse(fuse)
			e := host.Format(d)
			if e == api.OK {
				break
			}
			if e != api.ErrPower || d.On() {
				t.Fatalf("%s, fuse %d: %d", name, fuse, e)
			}
			d.Boot()
			h, e := host.Open(d)
			switch {
			case e == api.ErrCorrupt && h == nil:
				none++
			case e != api.OK:
				t.Fatalf("%s, fuse %d: Open: %d", name, fuse, e)
			default:
				x := node{d, h}
				if now := x.told(t); now != newHost && now != was {
					t.Fatalf("%s, fuse %d: half a host: %s", name, fuse, now)
				}
			}
			want(t, "Format again", host.Format(d), api.OK)
			if now := opened(t, d).told(t); now != newHost {
				t.Fatalf("%s, fuse %d, Format again: %s", name, fuse, now)
			}
		}
		if none == 0 {
			t.Errorf("%s: no cut was met", name)
		}
	}
}
