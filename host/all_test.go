package host_test

import (
	"math"
	"regexp"
	"slices"
	"strconv"
	"strings"
	"testing"

	"majordomo/api"
	"majordomo/host"
	"majordomo/provider"
)

var (
	keyForm   = regexp.MustCompile(`^[A-Za-z0-9._/-]{1,32}$`)
	countForm = regexp.MustCompile(`^[0-9]{1,9}$`)
)

// textAt is the bytes of a file, and whether there is one.
func (x node) textAt(path string) (string, bool) {
	s, e := x.h.Tree().Stat(path)
	b, _ := x.h.Tree().Read(path)
	return string(b), e == api.OK && s.Kind == api.KindFile
}

// owes is what is owed by the document's words.
func (x node) owes() []string {
	text, is := x.textAt("/run/owed")
	if !is || text == "" {
		return nil
	}
	l := strings.Split(strings.TrimSuffix(text, "\n"), "\n")
	for i, title := range l {
		if !keyForm.MatchString(title) || i > 0 && title <= l[i-1] {
			return nil
		}
	}
	if lines(l...) != text {
		return nil
	}
	return l
}

// step is a call, and what the document's words make of it: an error, or edits and perhaps a mark.
type step struct {
	name string
	call func(h *host.Host) (bool, api.Errno)
	l    []api.Edit
	mark api.Mark
	yes  bool
	e    api.Errno
}

func only(e api.Errno) (bool, api.Errno) { return false, e }

func (x node) stageStep(text string) step {
	s := step{name: "Stage", mark: x.h.Mark(), call: func(h *host.Host) (bool, api.Errno) { return only(h.Stage([]byte(text))) }}
	if now, is := x.textAt("/run/catalog"); !is || now != text {
		s.l = []api.Edit{fileOf("/run/catalog", 384, text)}
	}
	return s
}

func (x node) pruneStep(c api.Catalog) step {
	s := step{name: "Prune", mark: x.h.Mark(), call: func(h *host.Host) (bool, api.Errno) { return only(h.Prune(c)) }}
	var left []string
	for _, title := range x.owes() {
		if slices.ContainsFunc(c.R, func(r api.Resource) bool { return r.Type == "service" && r.Title == title }) {
			left = append(left, title)
		}
	}
	if len(left) < len(x.owes()) {
		s.l = []api.Edit{owed(left...)}
	}
	return s
}

func (x node) applyStep(c api.Catalog, i int) step {
	s := step{name: "Apply", mark: x.h.Mark(), call: func(h *host.Host) (bool, api.Errno) { return h.Apply(c, i) }}
	s.l, s.e = provider.Plan(x.h.Tree(), c, i)
	if s.yes = len(s.l) > 0; !s.yes {
		return s
	}
	then := x.owes()
	for _, edge := range c.E {
		if title := c.R[edge.To].Title; edge.From == i && edge.Notify && c.R[edge.To].Type == "service" && !slices.Contains(then, title) {
			then = append(then, title)
		}
	}
	if len(then) > len(x.owes()) {
		slices.Sort(then)
		s.l = append(s.l, owed(then...))
	}
	return s
}

func (x node) refreshStep(title string) step {
	s := step{name: "Refresh", mark: x.h.Mark(), call: func(h *host.Host) (bool, api.Errno) { return only(h.Refresh(title)) }}
	if !keyForm.MatchString(title) {
		s.e = api.ErrRow
		return s
	}
	now := x.owes()
	at := slices.Index(now, title)
	if at < 0 {
		return s
	}
	rows, e := provider.Rows(x.h.Tree(), "services")
	for _, r := range rows {
		if r.Key != title {
			continue
		}
		n := 0
		if countForm.MatchString(r.Cells[1]) {
			n, _ = strconv.Atoi(r.Cells[1])
		}
		r.Cells[1] = strconv.Itoa((n + 1) % 1000000000)
		s.l, e = provider.SetRow(x.h.Tree(), "services", r, false)
	}
	if s.e = e; e == api.OK {
		s.l = append(s.l, owed(slices.Delete(now, at, at+1)...))
	}
	return s
}

func (x node) markStep(m api.Mark) step {
	s := step{name: "SetMark", mark: m, call: func(h *host.Host) (bool, api.Errno) { return only(h.SetMark(m)) }}
	if m.Count < 0 {
		s.mark, s.e = x.h.Mark(), api.ErrArg
	}
	return s
}

// someCatalog is one, thrown with dice, of which Check now and then refuses one.
func someCatalog(z *dice) api.Catalog {
	all := []api.Resource{
		pick(z, full("file", "/a"), full("file", "/a", "content", "x"), full("file", "/a", "ensure", "absent"), full("file", "/a", "ensure", "directory", "purge", "true")),
		pick(z, full("file", "/b/c", "content", "y"), full("file", "/b/c", "ensure", "link", "target", "/a")),
		pick(z, full("group", "g"), full("group", "g", "ensure", "absent")),
		full("service", "r"), pick(z, full("service", "s"), full("service", "s", "ensure", "stopped")), full("service", "t"),
	}
	c := of(slices.DeleteFunc(all, func(api.Resource) bool { return z.next(4) == 0 })...)
	for i := range c.R {
		for k := range c.R {
			if i != k && z.next(3) == 0 {
				c = with(c, i, k, z.next(2))
			}
		}
	}
	if z.next(30) == 0 {
		c.Version = -1
	}
	return c
}

func (x node) someStep(z *dice) step {
	switch c := someCatalog(z); z.next(6) {
	case 0:
		return x.stageStep(pick(z, "", "x", "y", strings.Repeat("z", 2432), strings.Repeat("z", 1000)))
	case 1:
		return x.pruneStep(c)
	case 2:
		return x.refreshStep(pick(z, "r", "s", "t", "q", "", "a b"))
	case 3:
		return x.markStep(api.Mark{Count: pick(z, x.h.Mark().Count, x.h.Mark().Count+1, 0, -1, math.MaxInt), Pending: z.next(2) == 0})
	default:
		return x.applyStep(c, z.next(len(c.R)+2)-1)
	}
}

// drift edits the tree beside the host's calls; what finds no place is left out.
func (x node) drift(z *dice) {
	path := pick(z, "/run/owed", "/run/owed", "/run/catalog", "/tab/services", "/tab/services", "/a", "/b", "/run", "/tab")
	text := pick(z, "", "x", "r\ns\n", "q\nr\nt\n", "s\nr\n", "r:running:7\ns:stopped:x\n", "s:running:999999999\nt:running:9\n")
	l := []api.Edit{pick(z, fileOf(path, 384, text), fileOf(path, 384, text), file(path, text), gone(path), chmod(path, 7), link(path, text), dir(path))}
	switch {
	case strings.Count(path, "/") == 2 && z.next(3) == 0: // of another kind than it was
		l = append([]api.Edit{gone(path)}, l...)
	case path == "/run" || path == "/tab":
		l = []api.Edit{pick(z, dir(path), chmod(path, 493), dir(path))}
		if z.next(8) == 0 {
			l = []api.Edit{gone(path)}
		}
	}
	x.h.Tree().Do(l)
}

// wantStep does the step, perhaps with a fuse, and holds it against the document's words.
func (x node) wantStep(t *testing.T, s step, fuse int) node {
	t.Helper()
	was, writes, groups := x.told(t), x.d.Writes(), x.h.Tree().Groups()
	y := x.clone(t)
	if s.e == api.OK {
		s.e = y.h.Tree().Do(s.l)
	}
	if s.e != api.OK {
		s.yes = false
	}
	next := s.mark != x.h.Mark()
	head, rest, _ := strings.Cut(y.told(t), "\n")
	wanted := strconv.Itoa(s.mark.Count) + " " + strconv.FormatBool(s.mark.Pending) + "\n" + rest
	if !next {
		wanted = head + "\n" + rest
	}
	x.d.Fuse(fuse)
	yes, e := s.call(x.h)
	x.d.Fuse(-1)
	if e == api.ErrPower && fuse >= 0 {
		x.d.Boot()
		x = opened(t, x.d)
		if now := x.told(t); yes || now != was && now != wanted {
			t.Fatalf("%s: cut: %s\nwas\n%s", s.name, now, was)
		}
		return x
	}
	if yes != s.yes || e != s.e {
		t.Fatalf("%s: %v, %d; want %v, %d", s.name, yes, e, s.yes, s.e)
	}
	if now := x.told(t); now != wanted {
		t.Fatalf("%s: %s\nwant\n%s", s.name, now, wanted)
	}
	if wanted == was && x.d.Writes() != writes || next && x.d.Writes() != writes+1 || x.h.Tree().Groups() > groups+1 {
		t.Fatalf("%s: %d blocks in %d groups were written", s.name, x.d.Writes()-writes, x.h.Tree().Groups()-groups)
	}
	return x
}

// P10.2 to P10.8: a long run of calls, drift and cuts is held against the document's words.
func TestManySteps(t *testing.T) {
	z, x := dice(10), made(t)
	did := map[string]int{}
	for range 6000 {
		for range z.next(3) {
			x.drift(&z)
		}
		if _, e := x.h.Tree().Stat("/run"); e != api.OK && z.next(4) == 0 {
			x.do(t, dir("/run"))
		}
		if _, e := x.h.Tree().Stat("/tab"); e != api.OK && z.next(4) == 0 {
			x.do(t, dir("/tab"))
		}
		s, fuse := x.someStep(&z), -1
		if z.next(3) == 0 {
			fuse = z.next(20)
		}
		was := x.told(t)
		x = x.wantStep(t, s, fuse)
		what := "nothing"
		if s.e != api.OK {
			what = "refused"
		} else if x.told(t) != was {
			what = "done"
		}
		did[s.name+" "+what]++
		x.wantOwed(t, x.owes()...)
		staged, is := x.textAt("/run/catalog")
		if is {
			x.wantStaged(t, staged)
		} else {
			x.wantStaged(t, "")
		}
		if z.next(5) == 0 {
			x = opened(t, x.d)
		}
	}
	for _, name := range []string{"SetMark", "Stage", "Prune", "Apply", "Refresh"} {
		for _, what := range []string{"nothing", "refused", "done"} {
			if did[name+" "+what] < 20 && name+what != "Prunerefused" && name+what != "Stagerefused" {
				t.Errorf("%s %s: %d times", name, what, did[name+" "+what])
			}
		}
	}
}
