package catalog_test

import (
	"math"
	"slices"
	"strings"
	"testing"

	"majordomo/api"
	"majordomo/resource"
)

// P7.1, P7.2: the document's examples.
func TestExamples(t *testing.T) {
	a, below := inState("/a", "file"), inState("/a/b", "file")
	wantNot(t, of(inState("/b", "file"), a), api.ErrCatalog)
	wantNot(t, of(a, a), api.ErrTwice)
	wantNot(t, of(res("file", "/a")), api.ErrCatalog)
	wantNot(t, of(inState("/a", "absent"), below), api.ErrBlocked)
	wantSound(t, of(inState("/a", "directory"), below))
	wantNot(t, with(of(a, full("service", "s")), api.Edge{}), api.ErrEdge)
	wantNot(t, with(of(a, full("service", "s")), api.Edge{To: 1}, api.Edge{To: 1}), api.ErrEdge)
	wantSound(t, api.Catalog{Node: "n1"})
}

// P7.1: the versions that two bytes hold.
func TestVersions(t *testing.T) {
	for _, n := range []int{0, 1, 2, 127, 128, 255, 256, 300, 32767, 32768, 65534, 65535} {
		wantSound(t, api.Catalog{Version: n, Node: "n1"})
		wantSound(t, api.Catalog{Version: n, Node: "n1", R: services(2), E: ahead(2, 2)})
	}
	for _, n := range []int{-1, -2, -65535, -65536, math.MinInt, 65536, 65537, 65536 * 2, math.MaxInt32, 1 << 32, math.MaxInt} {
		wantNot(t, api.Catalog{Version: n, Node: "n1"}, api.ErrCatalog)
	}
}

// P7.1: nodes are words of 1 to 32 bytes.
func TestNodes(t *testing.T) {
	for _, s := range []string{"n", "n1", "N", "0", "/", "//", ".", "..", "-", "_", "/a/b", "tab", strings.Repeat("n", 31), strings.Repeat("n", 32), "azAZ09._-/"} {
		wantSound(t, api.Catalog{Node: s})
	}
	for _, s := range []string{"", " ", "n 1", "n:1", "n\n", "n\x00", "é", "n[1]", strings.Repeat("n", 33), strings.Repeat("n", 64), strings.Repeat("n", 300), strings.Repeat("n", 65536+2)} {
		wantNot(t, api.Catalog{Node: s}, api.ErrCatalog)
	}
	for i := range 256 {
		b := string([]byte{byte(i)})
		for _, s := range []string{b, "n" + b, b + "n", strings.Repeat("n", 31) + b, strings.Repeat("n", 32) + b} {
			want(t, api.Catalog{Node: s}, verdict(api.Catalog{Node: s}))
		}
	}
}

// P7.1: so many resources and edges, and not one more.
func TestCounts(t *testing.T) {
	for _, n := range []int{0, 1, 2, 31, 32} {
		wantSound(t, of(services(n)...))
	}
	for _, n := range []int{33, 34, 64, 200, 255, 256, 257, 288, 512} {
		wantNot(t, of(services(n)...), api.ErrLong)
	}
	for _, n := range []int{0, 1, 2, 48, 95, 96} {
		wantSound(t, with(of(services(32)...), ahead(32, n)...))
		wantSound(t, with(of(services(11)...), ahead(11, n)...))
	}
	for _, n := range []int{97, 98, 192, 255, 256, 257, 352, 512} {
		wantNot(t, with(of(services(32)...), ahead(32, n)...), api.ErrLong)
	}
	wantNot(t, with(of(services(33)...), ahead(33, 97)...), api.ErrLong)
}

// each is a full resource of each type in each of its states.
func each() []api.Resource {
	return []api.Resource{
		full("account", "ann", "ensure", "absent"), full("account", "bob"),
		inState("/a", "directory"), inState("/b", "file"), inState("/c", "link"), inState("/d", "absent"),
		full("group", "ops"), full("group", "wheel", "ensure", "absent"),
		full("package", "lynx"), full("package", "vim", "ensure", "absent"),
		full("service", "cron", "ensure", "stopped"), full("service", "ssh"),
	}
}

// P7.1: what resource.Check says of each resource, wherever it stands.
func TestResourceErrors(t *testing.T) {
	wantSound(t, of(each()...))
	for i, r := range each() {
		for _, bad := range []struct {
			r api.Resource
			e api.Errno
		}{
			{res("", r.Title), api.ErrType}, {res("disk", r.Title), api.ErrType}, {res(r.Type+"s", r.Title), api.ErrType},
			{res(r.Type, ""), api.ErrTitle}, {res(r.Type, "a b"), api.ErrTitle}, {res(r.Type, strings.Repeat("k", 200)), api.ErrTitle},
			{res(r.Type, r.Title, "ensure", "no"), api.ErrParam}, {res(r.Type, r.Title, "zone", "x"), api.ErrParam}, {res(r.Type, r.Title, "ensure", "absent", "ensure", "absent"), api.ErrParam},
		} {
			c := of(each()...)
			c.R[i] = bad.r
			wantNot(t, c, bad.e)
		}
		for j := range r.P { // one value that is not taken, one name that is not known
			c := copied(of(each()...))
			c.R[i].P[j].Value = "\xff" + strings.Repeat("x", 513)
			wantNot(t, c, api.ErrParam)
			c = copied(of(each()...))
			c.R[i].P[j].Name += "s"
			wantNot(t, c, api.ErrParam)
		}
	}
	wantNot(t, of(res("file", "/tab/x")), api.ErrTitle)
	wantNot(t, of(res("file", "/run")), api.ErrTitle)
	wantNot(t, of(res("file", "/a", "ensure", "link")), api.ErrParam)
}

// P7.1: resources have all their parameters.
func TestNotFull(t *testing.T) {
	for i, r := range each() {
		for mask := range 1 << len(r.P) {
			c := of(each()...)
			c.R[i].P = nil
			for j, p := range r.P {
				if mask>>j&1 == 1 {
					c.R[i].P = append(c.R[i].P, p)
				}
			}
			e := resource.Check(c.R[i])
			if e == api.OK && mask != 1<<len(r.P)-1 {
				e = api.ErrCatalog
			}
			want(t, c, e)
		}
	}
	for _, r := range []api.Resource{res("account", "a"), res("file", "/a"), res("group", "a"), res("package", "a"), res("service", "a")} {
		wantNot(t, of(r), api.ErrCatalog)
		wantNot(t, of(api.Resource{Type: r.Type, Title: r.Title, P: []api.Param{}}), api.ErrCatalog)
	}
	wantNot(t, of(res("file", "/a", "content", "x")), api.ErrCatalog)
	wantNot(t, of(res("file", "/a", "ensure", "directory", "mode", "0755")), api.ErrCatalog)
	wantNot(t, of(res("account", "a", "ensure", "present", "group", "g", "uid", "1")), api.ErrCatalog)
}

// P7.1: resources rise by type, then by title, byte by byte, and none stands twice.
func TestOrder(t *testing.T) {
	rising := []api.Resource{
		full("account", "B"), full("account", "a"), full("account", "a/b"), full("account", "aa"), full("account", "z"),
		inState("/B", "file"), inState("/a", "directory"), inState("/a-", "absent"), inState("/a/b", "file"), inState("/a0", "link"), inState("/aa", "file"), inState("/b", "directory"),
		full("group", "B"), full("group", "a"), full("package", "B"), full("package", "a"), full("service", "B"), full("service", "a"),
	}
	wantSound(t, of(rising...))
	for i, a := range rising {
		for j, b := range rising {
			switch {
			case i < j:
				wantSound(t, of(a, b))
			case i == j:
				wantNot(t, of(a, b), api.ErrTwice)
			default:
				wantNot(t, of(a, b), api.ErrCatalog)
			}
			turned := slices.Clone(rising)
			turned[i], turned[j] = b, a
			want(t, of(turned...), map[bool]api.Errno{true: api.OK, false: api.ErrCatalog}[i == j])
		}
		wantNot(t, of(slices.Insert(slices.Clone(rising), i, a)...), api.ErrTwice)
	}
	a, b := inState("/a", "file"), inState("/b", "file")
	wantNot(t, of(a, b, a), api.ErrCatalog)
	wantNot(t, of(a, b, b, a), api.ErrTwice)
	wantNot(t, of(b, a, a), api.ErrCatalog)
}

// P7.1: twice is twice whatever the parameters are; one title may stand under several types.
func TestTwice(t *testing.T) {
	for _, x := range []string{"file", "directory", "link", "absent"} {
		for _, y := range []string{"file", "directory", "link", "absent"} {
			wantNot(t, of(inState("/a", x), inState("/a", y)), api.ErrTwice)
		}
	}
	wantNot(t, of(full("file", "/a", "content", "x"), full("file", "/a", "content", "y")), api.ErrTwice)
	wantNot(t, of(full("file", "/a", "content", "y"), full("file", "/a", "content", "x")), api.ErrTwice)
	wantNot(t, of(full("account", "a", "uid", "2"), full("account", "a", "uid", "1")), api.ErrTwice)
	wantNot(t, of(full("service", "a"), full("service", "a", "ensure", "stopped")), api.ErrTwice)
	wantSound(t, of(full("account", "/a"), inState("/a", "file"), full("group", "/a"), full("package", "/a"), full("service", "/a")))
}

// P7.1: all that may be wrong with resources, in their order.
func TestResourceByResource(t *testing.T) {
	a, b := full("group", "a"), full("group", "b")
	notFull, bad := res("group", "b"), res("group", "b", "gid", "x")
	for _, x := range []struct {
		e api.Errno
		l []api.Resource
	}{
		{api.ErrCatalog, []api.Resource{notFull, res("disk", "c")}},
		{api.ErrType, []api.Resource{res("disk", "c"), notFull}},
		{api.ErrParam, []api.Resource{bad, res("disk", "c"), res("group", "")}},
		{api.ErrTitle, []api.Resource{res("group", ""), bad, res("disk", "c")}},
		{api.ErrCatalog, []api.Resource{b, a, bad}},
		{api.ErrTwice, []api.Resource{b, b, bad}},
		{api.ErrTwice, []api.Resource{b, b, notFull}},
		{api.ErrTwice, []api.Resource{a, a, b, a}},
		{api.ErrCatalog, []api.Resource{b, a, a}},
		{api.ErrCatalog, []api.Resource{b, notFull}},       // not full ahead of twice
		{api.ErrCatalog, []api.Resource{notFull, notFull}}, // the first one is not full
		{api.ErrParam, []api.Resource{b, bad}},             // resource.Check ahead of twice
		{api.ErrParam, []api.Resource{full("group", "c"), bad}},
		{api.ErrType, []api.Resource{b, res("disk", "b")}},
		{api.ErrTitle, []api.Resource{b, res("file", "b")}},
		{api.ErrParam, []api.Resource{b, res("file", "/b", "ensure", "link")}},
		{api.ErrCatalog, []api.Resource{b, b, a}[1:]},
	} {
		wantNot(t, of(x.l...), x.e)
		wantNot(t, of(append([]api.Resource{inState("/a", "file")}, x.l...)...), x.e)
	}
}

// P7.1: what stands in whose way, for each two states and many two paths.
func TestBlocked(t *testing.T) {
	states := []string{"file", "directory", "link", "absent"}
	for _, x := range []struct {
		above, other string
		below        bool
	}{
		{"/a", "/a/b", true}, {"/a", "/a/b/c", true}, {"/a", "/a/b/c/d/e/f/g/h", true}, {"/a/b", "/a/b/c", true}, {"/a/b", "/a/b/c/d", true}, {"/a", "/a/a", true}, {"/a.", "/a./b", true}, {"/a", "/a/...", true},
		{"/a", "/ab", false}, {"/a", "/a-b", false}, {"/a", "/a.b", false}, {"/a", "/b", false}, {"/a", "/b/a", false}, {"/a/b", "/a/c", false}, {"/a/b", "/a/bb", false}, {"/a/b", "/a/b.c", false}, {"/a", "/aa/b", false}, {"/a", "/a-/a/b", false}, {"/A", "/a/b", false}, {"/b", "/c/b/d", false},
	} {
		for _, s := range states {
			for _, other := range states {
				e := api.OK
				if x.below && s != "directory" && other != "absent" {
					e = api.ErrBlocked
				}
				l := []api.Resource{inState(x.above, s), inState(x.other, other)}
				want(t, of(l...), e)
				more := append([]api.Resource{full("account", "a"), inState("/0", "file")}, l...)
				want(t, of(append(more, inState("/z", "file"), full("package", "p"))...), e)
			}
		}
	}
}

// P7.1: the two need not stand side by side, and others between them change nothing.
func TestBlockedFarAway(t *testing.T) {
	gone, dir, file := "absent", "directory", "file"
	wantNot(t, of(inState("/a", file), inState("/a-x", file), inState("/a.x", dir), inState("/a/b", file)), api.ErrBlocked)
	wantNot(t, of(inState("/a", file), inState("/a-x", dir), inState("/a-x/y", file), inState("/a/b", dir)), api.ErrBlocked)
	wantNot(t, of(inState("/a", file), inState("/a/b", gone), inState("/a/c", file)), api.ErrBlocked)
	wantNot(t, of(inState("/a", gone), inState("/a/b", gone), inState("/a/b/c", "link")), api.ErrBlocked)
	wantNot(t, of(inState("/a", dir), inState("/a/b", dir), inState("/a/b/c", gone), inState("/a/b/c/d", dir)), api.ErrBlocked)
	wantNot(t, of(inState("/a", dir), inState("/a/b", file), inState("/a/b/c", dir)), api.ErrBlocked)
	wantNot(t, of(inState("/a", gone), inState("/a/b", dir)), api.ErrBlocked)
	wantSound(t, of(inState("/a", dir), inState("/a/b", gone), inState("/a/b/c", gone), inState("/a/d", dir), inState("/a/d/e", "link")))
	wantSound(t, of(inState("/a", "link"), inState("/a/b", gone), inState("/a/b/c", gone)))
	wantSound(t, of(full("file", "/a", "ensure", dir, "purge", "true"), inState("/a/b/c", file)))
	wantSound(t, of(inState("/a/b", file), inState("/b/a", file), inState("/c/a/b", file)))
	wantSound(t, of(inState("/a/b/c", file)))
}

// P7.1: only files stand in the way, and only of files.
func TestBlockedOfFiles(t *testing.T) {
	for _, x := range []string{"account", "group", "package", "service"} {
		for _, state := range []string{"file", "link", "absent"} {
			l := []api.Resource{inState("/a", state), full(x, "/a/b")}
			slices.SortFunc(l, func(a, b api.Resource) int { return strings.Compare(a.Type, b.Type) })
			wantSound(t, of(l...))
		}
		l := []api.Resource{inState("/a/b", "file"), full(x, "/a")}
		slices.SortFunc(l, func(a, b api.Resource) int { return strings.Compare(a.Type, b.Type) })
		wantSound(t, of(l...))
		wantSound(t, of(full(x, "/a"), full(x, "/a/b")))
		if x != "service" {
			wantSound(t, of(full(x, "/a", "ensure", "absent"), full(x, "/a/b")))
		}
	}
}

// P7.1: each edge alone, between two of three resources or not.
func TestEdge(t *testing.T) {
	ends := []int{math.MinInt, -256, -2, -1, 0, 1, 2, 3, 4, 32, 255, 256, 257, 258, 512, math.MaxInt32, math.MaxInt}
	for _, from := range ends {
		for _, to := range ends {
			for _, notify := range []bool{false, true} {
				e := api.ErrEdge
				if from >= 0 && from <= 2 && to >= 0 && to <= 2 && from != to {
					e = api.OK
				}
				want(t, with(of(services(3)...), api.Edge{From: from, To: to, Notify: notify}), e)
			}
		}
	}
	for n := range 32 {
		for i := range n + 1 {
			wantNot(t, with(of(services(n)...), api.Edge{From: i, To: n}), api.ErrEdge)
			wantNot(t, with(of(services(n)...), api.Edge{From: n, To: i}), api.ErrEdge)
			if i < n {
				wantNot(t, with(of(services(n)...), api.Edge{From: i, To: i}), api.ErrEdge)
			}
		}
	}
}

// P7.1: edges rise by From, then by To, and none stands twice; they may go round.
func TestEdges(t *testing.T) {
	all := ahead(4, 12)
	wantSound(t, with(of(services(4)...), all...))
	for i, a := range all {
		for j, b := range all {
			e := api.ErrEdge
			if i < j {
				e = api.OK
			}
			want(t, with(of(services(4)...), a, b), e)
			want(t, with(of(services(4)...), api.Edge{From: 0, To: 1}, a, b), map[bool]api.Errno{true: e, false: api.ErrEdge}[i > 0])
			b.Notify = !b.Notify
			want(t, with(of(services(4)...), a, b), e)
			turned := slices.Clone(all)
			turned[i], turned[j] = turned[j], turned[i]
			want(t, with(of(services(4)...), turned...), map[bool]api.Errno{true: api.OK, false: api.ErrEdge}[i == j])
		}
		wantNot(t, with(of(services(4)...), slices.Insert(slices.Clone(all), i, a)...), api.ErrEdge)
		for _, bad := range []api.Edge{{From: i % 4, To: i % 4}, {From: i % 4, To: 4}, {From: i % 4, To: -1}, {From: 4, To: i % 4}, {From: -1, To: i % 4}} {
			l := slices.Clone(all)
			l[i] = bad
			wantNot(t, with(of(services(4)...), l...), api.ErrEdge)
		}
	}
	wantSound(t, with(of(services(3)...), api.Edge{From: 0, To: 1}, api.Edge{From: 1, To: 2}, api.Edge{From: 2, To: 0}))
	wantSound(t, with(of(services(3)...), api.Edge{From: 0, To: 2}, api.Edge{From: 1, To: 0}))
	wantNot(t, with(of(), api.Edge{From: 0, To: 1}), api.ErrEdge)
	wantNot(t, with(of(), api.Edge{}), api.ErrEdge)
}

// sized is a catalog whose encoding has so many bytes: the files' contents fill it.
func sized(size, edges int) api.Catalog {
	c := with(of(inState("/a", "file"), inState("/b", "file"), inState("/c", "file"), inState("/d", "file"), inState("/e", "file")), ahead(5, edges)...)
	b, _ := laid(c)
	left := size - len(b)
	for i := range c.R {
		c.R[i] = full("file", c.R[i].Title, "content", strings.Repeat("x", min(left, 512)))
		left -= min(left, 512)
	}
	return c
}

// P7.1: an encoding has at most 2432 bytes, whatever it has them for.
func TestSize(t *testing.T) {
	for edges := range 21 {
		for size := 2425; size < 2440; size++ {
			c := sized(size, edges)
			if b, _ := laid(c); len(b) != size {
				t.Fatal(len(b), size)
			}
			want(t, c, map[bool]api.Errno{true: api.OK, false: api.ErrLong}[size <= 2432])
		}
		c := sized(2433-3*edges, 0)
		c.E = ahead(5, edges)
		wantNot(t, c, api.ErrLong)
		c = sized(2432-3*edges, 0)
		c.E = ahead(5, edges)
		wantSound(t, c)
	}
	c := sized(2420, 3)
	c.Node = strings.Repeat("n", 14)
	wantSound(t, c)
	c.Node += "n"
	wantNot(t, c, api.ErrLong)
	var l []api.Resource
	for _, s := range services(32) {
		l = append(l, full("file", "/"+s.Title, "content", strings.Repeat("x", 512)))
	}
	wantNot(t, of(l...), api.ErrLong)
	wantNot(t, of(l[:5]...), api.ErrLong)
	wantSound(t, of(l[:4]...))
}

// P7.1, R3: for each two things that are wrong, the one that the document names first is told.
func TestFirstError(t *testing.T) {
	base := func() api.Catalog {
		l := []api.Resource{inState("/a", "directory"), inState("/a/b", "file"), full("package", "p"), full("service", "s"), full("service", "t")}
		return with(of(l...), api.Edge{From: 0, To: 1, Notify: true}, api.Edge{From: 0, To: 2}, api.Edge{From: 2, To: 3})
	}
	wantSound(t, base())
	faults := []struct {
		rank int
		e    api.Errno
		do   func(c *api.Catalog)
	}{
		{1, api.ErrCatalog, func(c *api.Catalog) { c.Version = 65536 }},
		{1, api.ErrCatalog, func(c *api.Catalog) { c.Version = -1 }},
		{1, api.ErrCatalog, func(c *api.Catalog) { c.Node = "" }},
		{1, api.ErrCatalog, func(c *api.Catalog) { c.Node = "n 1" }},
		{2, api.ErrLong, func(c *api.Catalog) { c.R = append(c.R, services(33)...) }},
		{2, api.ErrLong, func(c *api.Catalog) { c.E = append(c.E, make([]api.Edge, 97)...) }},
		{3, api.ErrType, func(c *api.Catalog) { c.R[len(c.R)-1].Type = "disk" }},
		{3, api.ErrTitle, func(c *api.Catalog) { c.R[len(c.R)-1].Title = "" }},
		{3, api.ErrParam, func(c *api.Catalog) { c.R[len(c.R)-1].P = []api.Param{{Name: "ensure"}} }},
		{3, api.ErrCatalog, func(c *api.Catalog) { c.R[len(c.R)-1].P = nil }},
		{3, api.ErrCatalog, func(c *api.Catalog) { c.R[len(c.R)-1].Title = "a" }},
		{3, api.ErrTwice, func(c *api.Catalog) { c.R[len(c.R)-1] = c.R[len(c.R)-2] }},
		{4, api.ErrBlocked, func(c *api.Catalog) { c.R[0] = inState("/a", "file") }},
		{4, api.ErrBlocked, func(c *api.Catalog) { c.R[0] = inState("/a", "absent") }},
		{5, api.ErrEdge, func(c *api.Catalog) { c.E[0].To = 0 }},
		{5, api.ErrEdge, func(c *api.Catalog) { c.E[0].To = 300 }},
		{5, api.ErrEdge, func(c *api.Catalog) { c.E[0].From = -1 }},
		{5, api.ErrEdge, func(c *api.Catalog) { c.E[1] = c.E[0] }},
		{6, api.ErrLong, func(c *api.Catalog) {
			for _, s := range "0123456789" {
				c.R = slices.Insert(c.R, 2, full("file", "/b"+string('9'-s+'0'), "content", strings.Repeat("x", 512)))
			}
		}},
	}
	for _, x := range faults {
		c := base()
		x.do(&c)
		wantNot(t, c, x.e)
		for _, y := range faults {
			if x.rank < y.rank {
				c := base()
				y.do(&c)
				x.do(&c)
				wantNot(t, c, x.e)
			}
		}
	}
}
