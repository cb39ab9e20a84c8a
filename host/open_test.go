package host_test

import (
	"bytes"
	"math"
	"testing"

	"majordomo/api"
	"majordomo/blockfs"
	"majordomo/disk"
	"majordomo/host"
)

const newHost = "0 false\n/ 2 493\n/run 2 493\n/tab 2 493\n"

// The chapter's examples.
func TestExamples(t *testing.T) {
	x := made(t)
	if x.h.Mark() != (api.Mark{}) {
		t.Error(x.h.Mark())
	}
	x.wantOwed(t)
	x.wantStaged(t, "")
	c := notifying("", "s")
	x.wantApply(t, c, 0, true, api.OK)
	x.wantOwed(t, "s")
	x.wantApply(t, c, 0, false, api.OK)
	x.wantApply(t, c, 1, true, api.OK)
	want(t, "Refresh", x.h.Refresh("s"), api.OK)
	x.wantOwed(t)
	if b, e := x.h.Tree().Read("/tab/services"); e != api.OK || string(b) != "s:running:1\n" {
		t.Errorf("%q, %d", b, e)
	}
}

// grounds is disks of what Format may meet: new ones, littered ones, ones with another host.
func grounds(t *testing.T, blocks int) map[string]*disk.Disk {
	t.Helper()
	littered := newDisk(t, blocks)
	for i := range blocks {
		littered.Write(i, bytes.Repeat([]byte{byte(i*7 + 1)}, 64))
	}
	used := newDisk(t, blocks)
	want(t, "Format", host.Format(used), api.OK)
	x := opened(t, used)
	x.do(t, owed("s"), file("/f", "x"), chmod("/", 1), chmod("/tab", 2), gone("/run/owed"), fileOf("/run/catalog", 384, "y"))
	want(t, "SetMark", x.h.SetMark(api.Mark{Count: 7, Pending: true}), api.OK)
	return map[string]*disk.Disk{"new": newDisk(t, blocks), "littered": littered, "used": used}
}

// P10.1: Format makes just the two directories and the mark of nothing, whatever was there.
func TestFormat(t *testing.T) {
	for _, blocks := range []int{512, 513, 4096} {
		for name, d := range grounds(t, blocks) {
			want(t, name, host.Format(d), api.OK)
			x := opened(t, d)
			if now := x.kept(t); now != newHost {
				t.Fatalf("%d blocks, %s: %s", blocks, name, now)
			}
			if b, e := d.Read(1); e != api.OK || !bytes.Equal(b, make([]byte, 64)) {
				t.Fatalf("%d blocks, %s: the mark is %v", blocks, name, b)
			}
			x.wantOwed(t)
			x.wantStaged(t, "")
		}
	}
}

// P10.1: a disk that is too small for a tree is refused, and stays as it is.
func TestTooSmall(t *testing.T) {
	for _, blocks := range []int{1, 2, 511} {
		d := newDisk(t, blocks)
		want(t, "Format", host.Format(d), api.ErrArg)
		if d.Writes() != 0 {
			t.Fatalf("%d blocks were written", d.Writes())
		}
		if h, e := host.Open(d); h != nil || e != api.ErrArg {
			t.Fatalf("Open: %v, %d", h, e)
		}
		d.Fuse(0)
		d.Write(0, make([]byte, 64))
		want(t, "Format without power", host.Format(d), api.ErrArg)
	}
}

// P10.1: without power nothing is made and nothing is found.
func TestOpenAndFormatWithoutPower(t *testing.T) {
	x := made(t, file("/f", "x"))
	was := x.told(t)
	x.off()
	want(t, "Format", host.Format(x.d), api.ErrPower)
	if h, e := host.Open(x.d); h != nil || e != api.ErrPower {
		t.Fatalf("Open: %v, %d", h, e)
	}
	x.d.Boot()
	if now := opened(t, x.d).told(t); now != was {
		t.Fatal(now)
	}
}

// P10.1: where there is no tree there is no host, whatever the mark.
func TestNoTree(t *testing.T) {
	d := newDisk(t, 600)
	if h, e := host.Open(d); h != nil || e != api.ErrCorrupt {
		t.Fatalf("Open: %v, %d", h, e)
	}
	x := made(t)
	x.d.Write(0, bytes.Repeat([]byte{0xff}, 64))
	if h, e := host.Open(x.d); h != nil || e != api.ErrCorrupt {
		t.Fatalf("Open: %v, %d", h, e)
	}
}

// counter is a block Counter of these bytes at the front.
func counter(l ...byte) []byte { return append(l, make([]byte, 64-len(l))...) }

// P10.1: just the bytes of a mark are one.
func TestOpenTakesMarks(t *testing.T) {
	x := made(t)
	for _, c := range []struct {
		b []byte
		m api.Mark
	}{
		{counter(), api.Mark{}},
		{counter(0, 0, 0, 0, 0, 0, 0, 0, 1), api.Mark{Pending: true}},
		{counter(0, 0, 0, 0, 0, 0, 0, 1), api.Mark{Count: 1}},
		{counter(0, 0, 0, 0, 0, 0, 1, 2, 1), api.Mark{Count: 258, Pending: true}},
		{counter(1, 2, 3, 4, 5, 6, 7, 8), api.Mark{Count: 0x0102030405060708}},
		{counter(0, 0, 0, 0, 0x80), api.Mark{Count: 1 << 31}},
		{counter(0x7f, 0xff, 0xff, 0xff, 0xff, 0xff, 0xff, 0xff, 1), api.Mark{Count: math.MaxInt, Pending: true}},
	} {
		x.d.Write(1, c.b)
		writes := x.d.Writes()
		if m := opened(t, x.d).h.Mark(); m != c.m || x.d.Writes() != writes {
			t.Errorf("%v: %v; want %v; %d blocks written", c.b, m, c.m, x.d.Writes()-writes)
		}
	}
}

func TestOpenRefusesWhatIsNoMark(t *testing.T) {
	x := made(t)
	var l [][]byte
	for pending := 2; pending < 256; pending++ {
		l = append(l, counter(0, 0, 0, 0, 0, 0, 0, 5, byte(pending)))
	}
	for i := 9; i < 64; i++ {
		for _, wrong := range []byte{1, 0x80, 0xff} {
			b := counter(0, 0, 0, 0, 0, 0, 0, 5, 1)
			b[i] = wrong
			l = append(l, b)
		}
	}
	l = append(l, counter(0x80), counter(0xff, 0xff, 0xff, 0xff, 0xff, 0xff, 0xff, 0xff, 1), bytes.Repeat([]byte{1}, 64))
	for _, b := range l {
		x.d.Write(1, b)
		writes := x.d.Writes()
		if h, e := host.Open(x.d); h != nil || e != api.ErrCorrupt || x.d.Writes() != writes {
			t.Fatalf("%v: %v, %d", b, h, e)
		}
	}
}

// P10.1: the host is found again with all that is in it, also if its directories are there no more; Open writes nothing.
func TestOpenFindsTheHost(t *testing.T) {
	x := made(t, owed("s"), fileOf("/run/catalog", 384, "x"), services("s:running:4\n"))
	want(t, "SetMark", x.h.SetMark(api.Mark{Count: 3}), api.OK)
	x.kept(t)
	x.do(t, gone("/tab"), gone("/run"), file("/tab", "no directory"))
	writes := x.d.Writes()
	y := opened(t, x.d)
	if x.told(t) != y.told(t) || y.d.Writes() != writes {
		t.Fatal(y.told(t))
	}
	y.wantOwed(t)
	y.wantStaged(t, "")
}

// P10.1: the tree is the host's own, and may be edited by others.
func TestTree(t *testing.T) {
	x := made(t)
	x.do(t, file("/f", "x"), owed("b"), fileOf("/run/catalog", 384, "c"))
	x.wantOwed(t, "b")
	x.wantStaged(t, "c")
	f, e := blockfs.Open(x.d)
	if e != api.OK {
		t.Fatal(e)
	}
	if b, e := f.Read("/f"); e != api.OK || string(b) != "x" {
		t.Fatalf("%q, %d", b, e)
	}
	if x.h.Tree() != x.h.Tree() {
		t.Error("a tree each time")
	}
}

// R1: a host that no Open gave answers, and has nothing.
func TestHostThatIsNone(t *testing.T) {
	h := new(host.Host)
	if h.Tree() != nil || h.Mark() != (api.Mark{}) || len(h.Owed()) > 0 || len(h.Staged()) > 0 {
		t.Error(h.Tree(), h.Mark(), h.Owed(), h.Staged())
	}
	yes, e := h.Apply(notifying("x", "s"), 0)
	if yes || e == api.OK {
		t.Error(yes, e)
	}
	if h.SetMark(api.Mark{Count: 1}) == api.OK || h.Stage(nil) == api.OK || h.Mark() != (api.Mark{}) {
		t.Error("what is not there was written")
	}
	want(t, "Prune", h.Prune(api.Catalog{}), api.OK)
	want(t, "Refresh", h.Refresh("s"), api.OK)
}
