package host_test

import (
	"math"
	"slices"
	"strings"
	"testing"

	"majordomo/api"
)

// wantDone: the resource is applied with one Do of these edits; P10.8: applied again, nothing is done.
func (x node) wantDone(t *testing.T, c api.Catalog, i int, l ...api.Edit) {
	t.Helper()
	x.wantOneDo(t, func() { x.wantApply(t, c, i, true, api.OK) }, l...)
	x.wantStill(t, func() { x.wantApply(t, c, i, false, api.OK) })
	y := x.clone(t)
	y.wantStill(t, func() { y.wantApply(t, c, i, false, api.OK) })
}

// wantRefused: the resource is not applied, but refused with this error.
func (x node) wantRefused(t *testing.T, c api.Catalog, i int, e api.Errno) {
	t.Helper()
	x.wantStill(t, func() { x.wantApply(t, c, i, false, e) })
}

// P10.5, P10.8: what the plan of a resource has is done at once, and once; no edge, nothing owed.
func TestApply(t *testing.T) {
	for _, c := range []struct {
		r    api.Resource
		l    []api.Edit
		done []api.Edit
	}{
		{full("file", "/a"), nil, []api.Edit{file("/a", "")}},
		{full("file", "/a", "content", "x", "mode", "0600"), []api.Edit{file("/a", "y")}, []api.Edit{fileOf("/a", 384, "x")}},
		{full("file", "/a/b/c", "content", "x"), nil, []api.Edit{dir("/a"), dir("/a/b"), file("/a/b/c", "x")}},
		{full("file", "/a", "ensure", "link", "target", "/x"), []api.Edit{file("/a", "y")}, []api.Edit{gone("/a"), link("/a", "/x")}},
		{full("file", "/a", "ensure", "absent"), []api.Edit{dir("/a")}, []api.Edit{gone("/a")}},
		{full("file", "/a", "ensure", "directory", "purge", "true"), []api.Edit{dir("/a"), chmod("/a", 1), file("/a/x", ""), dir("/a/y"), link("/a/y/z", "")}, []api.Edit{chmod("/a", 493), gone("/a/x"), gone("/a/y")}},
		{full("account", "a"), nil, []api.Edit{file("/tab/accounts", "a:1000:users:/bin/sh\n")}},
		{full("group", "a"), []api.Edit{file("/tab/groups", "a:7\nb:1\n")}, []api.Edit{file("/tab/groups", "a:1000\nb:1\n")}},
		{full("package", "a", "ensure", "absent"), []api.Edit{file("/tab/packages", "a:7\nb:1\n")}, []api.Edit{file("/tab/packages", "b:1\n")}},
		{full("service", "a"), []api.Edit{services("b:running:3\n")}, []api.Edit{services("a:running:0\nb:running:3\n")}},
		{full("service", "a", "ensure", "stopped"), []api.Edit{services("a:running:3\n")}, []api.Edit{services("a:stopped:3\n")}},
	} {
		x := made(t, c.l...)
		x.wantDone(t, of(c.r), 0, c.done...)
		x.wantOwed(t)
		if _, e := x.h.Tree().Stat("/run/owed"); e != api.ErrNoEntry {
			t.Fatalf("%v: /run/owed was made", c.r)
		}
	}
}

// P10.5: a resource that is so already notifies nobody.
func TestApplyOfWhatIsSo(t *testing.T) {
	c := notifying("x", "s")
	x := made(t, file("/a", "x"))
	x.wantRefused(t, c, 0, api.OK)
	x.wantOwed(t)
	x = made(t, file("/a", "x"), fileOf("/run/owed", 7, "r\n"))
	x.wantRefused(t, c, 0, api.OK)
	x.wantOwed(t, "r")
}

// P10.5: the services that an edge from the resource notifies are owed with its Do; those that are owed stay so.
func TestApplyNotifies(t *testing.T) {
	for _, c := range []struct{ was, titles, left []string }{
		{nil, []string{"s"}, []string{"s"}},
		{nil, []string{"a", "b", "c"}, []string{"a", "b", "c"}},
		{[]string{"m"}, []string{"a"}, []string{"a", "m"}},
		{[]string{"m"}, []string{"z"}, []string{"m", "z"}},
		{[]string{"b", "d"}, []string{"a", "c", "e"}, []string{"a", "b", "c", "d", "e"}},
		{[]string{"b", "d"}, []string{"b", "c"}, []string{"b", "c", "d"}},
		{[]string{"b", "d"}, []string{"a", "b", "d"}, []string{"a", "b", "d"}},
		{numbered("a", 200), []string{"a1100", "a1100.", "b"}, slices.Sorted(slices.Values(append(numbered("a", 200), "a1100.", "b")))},
	} {
		x := made(t)
		if c.was != nil {
			x.do(t, fileOf("/run/owed", 420, lines(c.was...)))
		}
		x.wantDone(t, notifying("x", c.titles...), 0, file("/a", "x"), owed(c.left...))
		x.wantOwed(t, c.left...)
	}
}

// P10.5: where all that are notified are owed already, what is owed is not laid again, whatever mode its file has.
func TestApplyNotifiesWhatIsOwedAlready(t *testing.T) {
	for _, titles := range [][]string{{"s"}, {"r", "s"}, {"q", "r", "s"}} {
		x := made(t, fileOf("/run/owed", 7, "q\nr\ns\n"))
		x.wantDone(t, notifying("x", titles...), 0, file("/a", "x"))
		x.wantOwed(t, "q", "r", "s")
	}
}

// P10.5: only an edge that notifies, from this resource, to a service, makes one owed.
func TestApplyNotifiesNobodyElse(t *testing.T) {
	r := []api.Resource{full("account", "n"), full("file", "/a", "content", "x"), full("file", "/b"), full("group", "n"), full("package", "n"), full("service", "n"), full("service", "s")}
	for _, edges := range [][]int{
		{1, 5, 0},
		{1, 5, 0, 1, 6, 0},
		{1, 0, 1, 1, 2, 1, 1, 3, 1, 1, 4, 1},
		{2, 5, 1, 2, 6, 1, 6, 1, 1},
		{0, 5, 1, 5, 1, 1},
		{},
	} {
		x := made(t)
		x.wantDone(t, with(of(r...), edges...), 1, file("/a", "x"))
		x.wantOwed(t)
	}
	x := made(t)
	x.wantDone(t, with(of(r...), 0, 5, 1, 1, 0, 1, 1, 5, 0, 1, 6, 1, 2, 5, 1), 1, file("/a", "x"), owed("s"))
}

// P10.5: whatever type a resource has, it notifies: also a service another one, in edges that go round.
func TestApplyOfEachTypeNotifies(t *testing.T) {
	c := of(full("account", "n"), full("file", "/a"), full("group", "n"), full("package", "n"), full("service", "n"), full("service", "s"))
	c = with(c, 0, 5, 1, 1, 5, 1, 2, 5, 1, 3, 5, 1, 4, 5, 1, 5, 4, 1)
	for i, edit := range []api.Edit{
		file("/tab/accounts", "n:1000:users:/bin/sh\n"), file("/a", ""), file("/tab/groups", "n:1000\n"), file("/tab/packages", "n:latest\n"), services("n:running:0\n"),
	} {
		x := made(t)
		x.wantDone(t, c, i, edit, owed("s"))
	}
	x := made(t, owed("s"))
	x.wantDone(t, c, 5, services("s:running:0\n"), owed("n", "s"))
}

// P10.5: a file without the form tells that nothing is owed; what is owed then takes its place.
func TestApplyWhereNothingSoundIsOwed(t *testing.T) {
	for text, titles := range forms() {
		if titles != nil {
			continue
		}
		x := made(t, file("/run/owed", text))
		x.wantDone(t, notifying("x", "s"), 0, file("/a", "x"), owed("s"))
		y := made(t, file("/run/owed", text))
		y.wantDone(t, notifying("x"), 0, file("/a", "x"))
	}
}

// P10.5: where what is owed can't be laid, the resource is not applied either.
func TestApplyWhereNothingCanBeOwed(t *testing.T) {
	for _, c := range []struct {
		l    []api.Edit
		code api.Errno
	}{
		{[]api.Edit{dir("/run/owed")}, api.ErrKind},
		{[]api.Edit{link("/run/owed", "s\n")}, api.ErrKind},
		{[]api.Edit{gone("/run")}, api.ErrNoEntry},
		{[]api.Edit{gone("/run"), file("/run", "")}, api.ErrKind},
	} {
		x := made(t, c.l...)
		x.wantRefused(t, notifying("x", "s"), 0, c.code)
		x.wantDone(t, notifying("x"), 0, file("/a", "x"))
	}
}

// P10.5: a catalog that Check refuses comes first, then the index, then what is in the way.
func TestApplyRefused(t *testing.T) {
	x := made(t, owed("r"), dir("/a"), file("/f", ""), file("/tab/services", "x"))
	bad := notifying("x", "s")
	bad.Node = ""
	for _, i := range []int{0, 1, -1, 2, math.MinInt} {
		x.wantRefused(t, bad, i, api.ErrCatalog)
	}
	twice := with(notifying("x", "s"), 0, 1, 1)
	x.wantRefused(t, twice, 0, api.ErrEdge)
	x.wantRefused(t, with(notifying("x"), 0, 1, 1), 0, api.ErrEdge)
	x.wantRefused(t, with(notifying("x", "s"), -1, 1, 1), 0, api.ErrEdge)
	x.wantRefused(t, of(full("service", "s"), full("service", "s")), 0, api.ErrTwice)
	x.wantRefused(t, of(api.Resource{Type: "service", Title: "s"}), 0, api.ErrCatalog)
	x.wantRefused(t, of(api.Resource{Type: "disk", Title: "s"}), 0, api.ErrType)
	x.wantRefused(t, api.Catalog{}, 0, api.ErrCatalog)
	x.wantRefused(t, of(), 0, api.ErrArg)
	for _, i := range []int{-1, 2, 3, math.MaxInt, math.MinInt} {
		x.wantRefused(t, notifying("x", "s"), i, api.ErrArg)
	}
	x.wantRefused(t, notifying("x", "s"), 0, api.ErrBlocked)
	x.wantRefused(t, notifying("x", "s"), 1, api.ErrCorrupt)
	x.wantRefused(t, of(full("file", "/f/g")), 0, api.ErrBlocked)
	x.wantOwed(t, "r")
}

// P10.5: the errors of Do are told, and then nothing is owed.
func TestApplyThatDoRefuses(t *testing.T) {
	x := made(t)
	for i := range 13 { // with /run and /tab there is room for one more
		x.do(t, file("/x"+string(rune('a'+i)), ""))
	}
	x.do(t, file("/last", ""))
	x.wantRefused(t, notifying("x", "s"), 0, api.ErrNames)
	x = made(t, owed("r"))
	x.fill(t, 1)
	x.wantRefused(t, notifying(strings.Repeat("x", 129), "s"), 0, api.ErrFull)
	x = made(t, gone("/tab"))
	x.wantRefused(t, with(of(full("group", "g"), full("service", "s")), 0, 1, 1), 0, api.ErrNoEntry)
	x.wantOwed(t)
}

// P10.5: the bytes of the plan and of what is owed count together.
func TestApplyOfTooManyBytes(t *testing.T) {
	most := numbered("key.", 270) // 2430 bytes
	x := made(t, owed(most...))
	x.wantRefused(t, notifying("x", "s"), 0, api.ErrLong) // and 2 bytes of s, and 1 of x
	x.wantRefused(t, notifying("", "sss"), 0, api.ErrLong)
	y := x.clone(t)
	y.wantDone(t, notifying("", "s"), 0, file("/a", ""), owed(append(slices.Clone(most), "s")...))
	x.wantDone(t, notifying("x", "key.1000"), 0, file("/a", "x"))
	x.wantOwed(t, most...)
}

func TestApplyWithoutPower(t *testing.T) {
	x := made(t, file("/b", ""))
	was := x.told(t)
	x.off()
	x.wantApply(t, notifying("x", "s"), 0, false, api.ErrPower)
	if yes, e := x.h.Apply(of(full("file", "/b")), 0); yes || e != api.OK && e != api.ErrPower {
		t.Fatal(yes, e)
	}
	x.d.Boot()
	if now := opened(t, x.d).told(t); now != was {
		t.Fatal(now)
	}
}
