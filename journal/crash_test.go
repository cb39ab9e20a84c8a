package journal

import (
	"testing"

	"majordomo/api"
	"majordomo/disk"
)

// ready is a disk with a journal that has done two groups, and what its blocks are.
func ready(t *testing.T, blocks, at int) (*disk.Disk, [][]byte) {
	t.Helper()
	d := littered(t, blocks)
	format(t, d, at)
	j := open(t, d, at)
	wantCommit(t, j, group(blocks, 70, 1), api.OK)
	wantCommit(t, j, group(blocks, 3, 2), api.OK)
	return d, image(t, d)
}

// wantWholeOrNone opens the journal and tells whether the group l was done behind the two of ready.
func wantWholeOrNone(t *testing.T, d *disk.Disk, at int, was [][]byte, l []api.Put) bool {
	t.Helper()
	g := open(t, d, at).Groups()
	switch g {
	case 2:
		wantImage(t, d, at, was)
	case 3:
		wantImage(t, d, at, with(was, l))
	default:
		t.Fatalf("Groups: %d", g)
	}
	return g == 3
}

// P2.5, P2.6: the power goes off ahead of each write of Commit, then ahead of each write of the Opens behind it.
func TestCutAheadOfEachWriteOfCommitAndOpen(t *testing.T) {
	const blocks, at = 320, 33
	for _, n := range []int{0, 1, 2, 5, 32, 33} {
		ground, was := ready(t, blocks, at)
		l := group(blocks, n, 7)
		seen := [2]int{}
		for fuse := 0; ; fuse++ {
			d := ground.Clone()
			j := open(t, d, at)
			d.Fuse(fuse)
			e := j.Commit(l)
			if e == api.OK {
				wantGroups(t, j, 3)
				break
			}
			if e != api.ErrPower || d.On() {
				t.Fatalf("%d writes, fuse %d: %d", n, fuse, e)
			}
			wantGroups(t, j, 2)
			d.Boot()
			done := cutOpens(t, d, at, was, l)
			seen[done]++
		}
		if seen[0] != n+(n+31)/32+1 || seen[1] != n+1 {
			t.Errorf("%d writes: %d cuts left nothing, %d cuts all", n, seen[0], seen[1])
		}
	}
}

// cutOpens cuts the power ahead of each write of Open, and answers 1 if the group was done behind every cut, 0 if behind none.
func cutOpens(t *testing.T, ground *disk.Disk, at int, was [][]byte, l []api.Put) int {
	t.Helper()
	done := 0
	if wantWholeOrNone(t, ground.Clone(), at, was, l) {
		done = 1
	}
	for fuse := 0; ; fuse++ {
		d := ground.Clone()
		d.Fuse(fuse)
		j, e := Open(d, at)
		if e == api.OK {
			return done
		}
		if e != api.ErrPower || j != nil {
			t.Fatalf("Open, fuse %d: %v, %d", fuse, j, e)
		}
		d.Boot()
		wantOnlyGroup(t, image(t, d), was, at, l)
		if wantWholeOrNone(t, d, at, was, l) != (done == 1) {
			t.Fatalf("Open, fuse %d: a cut turned the group round", fuse)
		}
	}
}

// wantOnlyGroup: each block beside the journal is as before, or as the group makes it.
func wantOnlyGroup(t *testing.T, now, was [][]byte, at int, l []api.Put) {
	t.Helper()
	next := with(was, l)
	for i := range now {
		inside := i >= at && i < at+places
		if !inside && string(now[i]) != string(was[i]) && string(now[i]) != string(next[i]) {
			t.Errorf("block %d is neither old nor new", i)
		}
	}
}

// P2.5: the greatest group, cut ahead of each write.
func TestCutAheadOfEachWriteOfTheGreatestCommit(t *testing.T) {
	const blocks, at = 400, 4
	ground, was := ready(t, blocks, at)
	l := group(blocks, api.MaxGroup, 7)
	cuts := 0
	for {
		d := ground.Clone()
		j := open(t, d, at)
		d.Fuse(cuts)
		if j.Commit(l) == api.OK {
			break
		}
		d.Boot()
		if done := wantWholeOrNone(t, d, at, was, l); done != (cuts > api.MaxGroup+6) {
			t.Fatalf("fuse %d: done %v", cuts, done)
		}
		cuts++
	}
	if cuts != 2*api.MaxGroup+6+2 {
		t.Errorf("%d writes", cuts)
	}
}

// P2.5: Open is cut again and again, each time one write later.
func TestManyCutsInARow(t *testing.T) {
	const blocks, at = 400, 4
	d, was := ready(t, blocks, at)
	l := group(blocks, api.MaxGroup, 7)
	owe(t, d, at, l)
	for fuse := range api.MaxGroup + 1 {
		d.Fuse(fuse)
		wantOpenError(t, d, at, api.ErrPower)
		d.Boot()
	}
	if !wantWholeOrNone(t, d, at, was, l) {
		t.Error("the group is lost")
	}
}

// P2.5: the power goes off ahead of each write of Format, on whatever the disk held.
func TestCutAheadOfEachWriteOfFormat(t *testing.T) {
	const blocks, at = 400, 4
	used, _ := ready(t, blocks, at)
	owing, was := ready(t, blocks, at)
	l := group(blocks, 40, 7)
	owe(t, owing, at, l)
	for _, c := range []struct {
		name     string
		ground   *disk.Disk
		previous int // its groups, -1: no journal
		after    [][]byte
	}{
		{"new", newDisk(t, blocks), -1, nil}, {"littered", littered(t, blocks), -1, nil},
		{"used", used, 2, image(t, used)}, {"owing", owing, 3, with(was, l)},
	} {
		before := image(t, c.ground)
		for fuse := 0; ; fuse++ {
			d := c.ground.Clone()
			d.Fuse(fuse)
			e := Format(d, at)
			if e == api.OK {
				break
			}
			if e != api.ErrPower {
				t.Fatalf("%s, fuse %d: %d", c.name, fuse, e)
			}
			d.Boot()
			wantImage(t, d, at, before)
			j, e := Open(d, at)
			switch {
			case e == api.ErrCorrupt && j == nil:
				wantImage(t, d, at, before)
			case e == api.OK && j.Groups() == 0:
				wantImage(t, d, at, before)
			case e == api.OK && j.Groups() == c.previous:
				wantImage(t, d, at, c.after)
			default:
				t.Errorf("%s, fuse %d: %v, %d", c.name, fuse, j, e)
			}
		}
	}
}

// P2.5: a journal that goes on behind a cut without a new Open does not tear what it left owed.
func TestCommitBehindACutOne(t *testing.T) {
	const blocks, at = 320, 33
	first, second := group(blocks, 5, 7), group(blocks, 3, 8)
	for fuse := range 13 {
		for again := 0; ; again++ {
			d, was := ready(t, blocks, at)
			j := open(t, d, at)
			d.Fuse(fuse)
			wantCommit(t, j, first, api.ErrPower)
			d.Boot()
			d.Fuse(again)
			e := j.Commit(second)
			d.Boot()
			wantOneOf(t, d, at, was, first, second)
			if e == api.OK {
				break
			}
		}
	}
}

// wantOneOf: of two groups, neither, one of them, or both in their order were done, as Groups says.
func wantOneOf(t *testing.T, d *disk.Disk, at int, was [][]byte, first, second []api.Put) {
	t.Helper()
	g, now := open(t, d, at).Groups(), image(t, d)
	ok := false
	switch g {
	case 2:
		ok = sameBeside(now, was, at)
	case 3:
		ok = sameBeside(now, with(was, first), at) || sameBeside(now, with(was, second), at)
	case 4:
		ok = sameBeside(now, with(with(was, first), second), at)
	}
	if !ok {
		t.Errorf("%d groups, and the blocks are not theirs", g)
	}
}

// dice tells numbers that look thrown, the same ones in each run.
type dice uint32

func (x *dice) next(n int) int {
	*x = *x*1664525 + 1013904223
	return int(*x>>16) % n
}

// thrownGroup is a group, now and then one that may not be.
func (x *dice) thrownGroup(blocks, at int) ([]api.Put, bool) {
	var l []api.Put
	good, seen := true, map[int]int{}
	for range x.next(12) {
		b := x.next(blocks)
		if b >= at && b < at+places && x.next(40) > 0 {
			b = at - 1 - x.next(at)
		}
		seen[b]++
		good = good && seen[b] == 1 && (b < at || b >= at+places)
		l = append(l, api.Put{Block: b, Bytes: filled(byte(x.next(256)))})
	}
	return l, good
}

// TestLikeThePlainDisk holds a long run of groups and cuts against the plain list of blocks.
func TestLikeThePlainDisk(t *testing.T) {
	const blocks, at = 300, 60
	d := littered(t, blocks)
	format(t, d, at)
	j, now, groups := open(t, d, at), image(t, d), 0
	x := dice(5)
	for step := range 3000 {
		l, good := x.thrownGroup(blocks, at)
		if x.next(2) == 0 {
			d.Fuse(x.next(30))
		}
		e := j.Commit(l)
		d.Fuse(-1)
		switch {
		case !good:
			if e != api.ErrGroup {
				t.Fatalf("step %d: %d", step, e)
			}
		case e == api.OK:
			now, groups = with(now, l), groups+1
		default:
			j = reopen(t, d, at, &x)
			if j.Groups() == groups+1 {
				now, groups = with(now, l), groups+1
			}
		}
		wantGroups(t, j, groups)
		wantImage(t, d, at, now)
		if t.Failed() {
			t.Fatalf("step %d", step)
		}
	}
}

// reopen boots and opens till an Open is not cut.
func reopen(t *testing.T, d *disk.Disk, at int, x *dice) *Journal {
	t.Helper()
	for {
		d.Boot()
		d.Fuse(x.next(15))
		j, e := Open(d, at)
		if e == api.OK {
			d.Boot()
			return j
		}
		if e != api.ErrPower {
			t.Fatal(e)
		}
	}
}
