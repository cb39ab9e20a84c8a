package blockfs

import (
	"maps"
	"slices"
	"strconv"
	"testing"

	"majordomo/api"
	"majordomo/disk"
)

// ready is a disk with a tree that some Dos made, and that tree.
func ready(t *testing.T) (*disk.Disk, plain, int) {
	t.Helper()
	d, f := made(t, 512)
	m := bare().steps(t, f, dir("/d"), file("/d/f", text(700)), link("/d/l", "/g"), file("/g", text(90)), dir("/d/e"), file("/d/e/h", text(64)), dir("/s"))
	m = m.steps(t, f, many("/s", 13)...)
	return d, m, f.Groups()
}

// groups is what is done while the power goes off: small and great ones.
func groups() [][]api.Edit {
	great := append(many("/d/e", 5), gone("/s"), dir("/s"), mode("/", 1))
	for i := range 6 {
		great = append(great, file("/s/"+strconv.Itoa(i), text(390)))
	}
	return [][]api.Edit{
		{mode("/", 7)}, {file("/g", "new"), dir("/b")}, {gone("/d")}, {file("/d/f", text(2432))}, {file("/s/113", ""), file("/s/114", "x")},
		{gone("/d/f"), link("/d/f", "was a file"), gone("/g"), dir("/g"), file("/g/x", text(129))}, great,
	}
}

// wantWholeOrNone opens the tree and tells whether the edits were done, which Groups must show, too.
func wantWholeOrNone(t *testing.T, d *disk.Disk, was, next plain, count int) bool {
	t.Helper()
	f := open(t, d)
	wantCounter(t, d)
	switch f.Groups() {
	case count:
		wantTree(t, f, was)
		return false
	case count + 1:
		wantTree(t, f, next)
		return true
	}
	t.Fatalf("Groups: %d behind %d", f.Groups(), count)
	return false
}

// P4.5, P4.6: the power goes off ahead of each write of Do, then ahead of each write of the Opens behind it.
func TestCutAheadOfEachWriteOfDoAndOpen(t *testing.T) {
	ground, was, count := ready(t)
	for which, l := range groups() {
		next, e := was.do(l, 278)
		if e != api.OK {
			t.Fatal(which, e)
		}
		seen := map[bool]int{}
		for fuse := 0; ; fuse++ {
			d := ground.Clone()
			f := open(t, d)
			d.Fuse(fuse)
			e := f.Do(l)
			if e == api.OK {
				wantTree(t, f, next)
				break
			}
			if e != api.ErrPower || d.On() {
				t.Fatalf("group %d, fuse %d: %d", which, fuse, e)
			}
			d.Boot()
			seen[cutOpens(t, d, was, next, count)]++
		}
		if seen[false] == 0 || seen[true] == 0 {
			t.Errorf("group %d: %d cuts left nothing, %d cuts all", which, seen[false], seen[true])
		}
	}
}

// cutOpens cuts the power ahead of each write of Open, and tells whether the edits were done behind every cut, or behind none.
func cutOpens(t *testing.T, ground *disk.Disk, was, next plain, count int) bool {
	t.Helper()
	done := wantWholeOrNone(t, ground.Clone(), was, next, count)
	for fuse := 0; ; fuse++ {
		d := ground.Clone()
		d.Fuse(fuse)
		f, e := Open(d)
		if e == api.OK {
			return done
		}
		if e != api.ErrPower || f != nil {
			t.Fatalf("Open, fuse %d: %v, %d", fuse, f, e)
		}
		d.Boot()
		if wantWholeOrNone(t, d, was, next, count) != done {
			t.Fatalf("Open, fuse %d: a cut turned the edits round", fuse)
		}
	}
}

// P4.5: Open is cut again and again, each time one write later.
func TestManyCutsInARow(t *testing.T) {
	ground, was, count := ready(t)
	for _, l := range groups() {
		next, _ := was.do(l, 278)
		for fuse := 0; ; fuse++ {
			d := ground.Clone()
			f := open(t, d)
			d.Fuse(fuse)
			if f.Do(l) == api.OK {
				break
			}
			d.Boot()
			done := wantWholeOrNone(t, d.Clone(), was, next, count)
			for again := 0; ; again++ {
				d.Fuse(again)
				if _, e := Open(d); e == api.OK {
					break
				}
				d.Boot()
			}
			d.Boot()
			if wantWholeOrNone(t, d, was, next, count) != done {
				t.Fatalf("fuse %d: cuts turned the edits round", fuse)
			}
		}
	}
}

// P4.5: the power goes off ahead of each write of Format, on whatever the disk held.
func TestCutAheadOfEachWriteOfFormat(t *testing.T) {
	used, was, count := ready(t)
	owing, next := owe(t, used, was)
	for name, ground := range map[string]*disk.Disk{"new": newDisk(t, 512), "littered": littered(t, 512), "used": used, "owing": owing} {
		seen := map[api.Errno]int{}
		for fuse := 0; ; fuse++ {
			d := ground.Clone()
			counter := get(t, d, 1)
			d.Fuse(fuse)
			e := Format(d)
			if e == api.OK {
				wantTree(t, open(t, d), bare())
				break
			}
			if e != api.ErrPower {
				t.Fatalf("%s, fuse %d: %d", name, fuse, e)
			}
			d.Boot()
			f, e := Open(d)
			seen[e]++
			switch {
			case e == api.ErrCorrupt && f == nil:
			case e == api.OK && f.Groups() == 0:
				wantTree(t, f, bare())
			case e == api.OK && name == "used" && f.Groups() == count:
				wantTree(t, f, was)
			case e == api.OK && name == "owing" && f.Groups() == count+1:
				wantTree(t, f, next)
			default:
				t.Fatalf("%s, fuse %d: %v, %d", name, fuse, f, e)
			}
			if !slices.Equal(get(t, d, 1), counter) {
				t.Fatalf("%s, fuse %d: the Counter was written", name, fuse)
			}
			if e := Format(d); e != api.OK {
				t.Fatal(e)
			}
			wantTree(t, open(t, d), bare())
		}
		if seen[api.ErrCorrupt] == 0 {
			t.Errorf("%s: no cut was met", name)
		}
	}
}

// owe is a disk whose power went off in a Do that the next Open ends.
func owe(t *testing.T, ground *disk.Disk, was plain) (*disk.Disk, plain) {
	t.Helper()
	l := groups()[1]
	next, _ := was.do(l, 278)
	for fuse := 0; ; fuse++ {
		d := ground.Clone()
		f := open(t, d)
		d.Fuse(fuse)
		if f.Do(l) == api.OK {
			t.Fatal("no cut leaves a group owed")
		}
		d.Boot()
		if open(t, d.Clone()).Groups() > f.Groups() {
			return d, next
		}
	}
}

// P4.5: a Do without power answers ErrPower, changes nothing, and is refused for what is wrong with it as ever.
func TestDoWithoutPower(t *testing.T) {
	d, was, count := ready(t)
	f := open(t, d)
	d.Fuse(0)
	d.Write(1, make([]byte, 64))
	for range 2 {
		wantDo(t, f, api.ErrPower, dir("/new"))
		wantDo(t, f, api.ErrLong, file("/new", text(2433)))
		if f.Groups() != count || f.Count() != len(was) {
			t.Fatal(f.Groups(), f.Count())
		}
		wantAudit(t, f, was)
	}
	d.Boot()
	if wantWholeOrNone(t, d, was, was, count) {
		t.Error("a Do was counted")
	}
	f = open(t, d)
	d.Fuse(0)
	d.Write(1, make([]byte, 64))
	wantDo(t, f, api.ErrNoEntry, gone("/x"))
	wantDo(t, f, api.ErrArg, mode("/", -1))
}

// P4.5: a file system that goes on behind a cut without a new Open goes on from what the disk holds.
func TestDoBehindACutOne(t *testing.T) {
	ground, was, count := ready(t)
	first := []api.Edit{file("/g", text(200)), dir("/n"), gone("/d")}
	second := []api.Edit{file("/g", text(64)), dir("/m"), link("/s/l", "x")}
	next, _ := was.do(first, 278)
	for fuse := 0; ; fuse++ {
		d := ground.Clone()
		f := open(t, d)
		d.Fuse(fuse)
		if f.Do(first) == api.OK {
			break
		}
		wantDo(t, f, api.ErrPower, second...)
		d.Boot()
		from := was
		if wantWholeOrNone(t, d.Clone(), was, next, count) {
			from = next
		}
		wantDo(t, f, api.OK, second...)
		m, _ := from.do(second, 278)
		wantKept(t, d, f, m)
	}
}

// P4.6: edits in one Do, or one by one, make the same tree.
func TestOneByOne(t *testing.T) {
	ground, was, _ := ready(t)
	for which, l := range groups() {
		next, _ := was.do(l, 278)
		at, one := ground.Clone(), ground.Clone()
		wantDo(t, open(t, at), api.OK, l...)
		f := open(t, one)
		for _, x := range l {
			wantDo(t, f, api.OK, x)
		}
		wantKept(t, one, f, next)
		wantTree(t, open(t, at), next)
		if t.Failed() {
			t.Fatalf("group %d", which)
		}
	}
}

// thrown throws edits: among few names, so that they meet each other, or among many, so that directories and trees grow full; of few bytes, or of many, so that disks do.
type thrown struct {
	dice
	names int
	great bool
}

func (x *thrown) path() string {
	if x.next(30) == 0 {
		return []string{"/", "//", "/..", "/a/b/c/d/e/f/g/h/i", ""}[x.next(5)]
	}
	path := ""
	for range 1 + x.next(3) {
		path += "/" + string(rune('a'+x.next(x.names)))
	}
	return path
}

func (x *thrown) edit() api.Edit {
	kinds := []int{api.EdFile, api.EdFile, api.EdFile, api.EdFile, api.EdFile, api.EdFile, api.EdDir, api.EdDir, api.EdDir, api.EdLink, api.EdLink, api.EdMode, api.EdMode, api.EdGone}
	e := api.Edit{Kind: kinds[x.next(len(kinds))], Path: x.path(), Mode: x.next(4096)}
	switch {
	case e.Kind == api.EdLink:
		e.Bytes = []byte(text(x.next(124)))
	case x.great || x.next(4) == 0:
		e.Bytes = []byte(text(x.next(2440)))
	default:
		e.Bytes = []byte(text(x.next(200)))
	}
	if x.next(100) == 0 {
		e.Kind, e.Mode = x.next(8), x.next(5000)-100
	}
	return e
}

// edits is a few of them, most of which the tree takes.
func (x *thrown) edits(m plain) []api.Edit {
	var l []api.Edit
	for range 30 {
		e := x.edit()
		if _, k := m.do(append(slices.Clone(l), e), 278); k == api.OK || x.next(40) == 0 {
			l = append(l, e)
		}
		if x.next(8) == 0 {
			break
		}
	}
	return l
}

// T1, P4.3 to P4.6: a long run of edits and cuts is held against the plain tree.
func TestLikeThePlainTree(t *testing.T) {
	d, f := made(t, 512)
	m, count := bare(), 0
	x := thrown{dice: 11}
	seen := map[api.Errno]int{}
	for step := range 3600 {
		x.names, x.great = []int{4, 20, 8}[step/200%3], step/200%3 == 2
		l := x.edits(m)
		next, want := m.do(l, 278)
		if x.next(3) == 0 {
			d.Fuse(x.next(60))
		}
		e := f.Do(l)
		d.Fuse(-1)
		seen[e]++
		if e != want && e != api.ErrPower {
			t.Fatalf("step %d: Do(%v): %d; want %d", step, short(l), e, want)
		}
		if e == api.ErrPower {
			f = reopen(t, d, &x.dice)
		}
		if e == api.OK || f.Groups() > count {
			if !maps.Equal(m, next) {
				count++
			}
			m = next
		}
		if f.Groups() != count {
			t.Fatalf("step %d: Groups: %d; want %d", step, f.Groups(), count)
		}
		wantKept(t, d, f, m)
	}
	for _, e := range []api.Errno{api.OK, api.ErrArg, api.ErrPower, api.ErrFull, api.ErrLong, api.ErrPath, api.ErrNoEntry, api.ErrKind, api.ErrNames, api.ErrNodes} {
		if seen[e] == 0 {
			t.Errorf("%d was not met: %v", e, seen)
		}
	}
}

// reopen boots and opens till an Open is not cut.
func reopen(t *testing.T, d *disk.Disk, x *dice) *FS {
	t.Helper()
	for {
		d.Boot()
		d.Fuse(x.next(300)) // now and then more than any Open writes
		f, e := Open(d)
		if e == api.OK {
			d.Boot()
			return f
		}
		if e != api.ErrPower {
			t.Fatal(e)
		}
	}
}
