package blockfs

import (
	"bytes"
	"slices"
	"testing"

	"majordomo/api"
	"majordomo/disk"
	"majordomo/layout"
)

// P4.1: a new tree, on disks of the sizes at the edges, whatever they held; the Counter stays.
func TestFormatAndOpen(t *testing.T) {
	for _, blocks := range []int{512, 513, 1000, 1024, 1025, 4095, 4096} {
		for _, d := range []*disk.Disk{newDisk(t, blocks), littered(t, blocks)} {
			counter := get(t, d, 1)
			if e := Format(d); e != api.OK {
				t.Fatalf("%d blocks: Format: %d", blocks, e)
			}
			f := open(t, d)
			wantTree(t, f, bare())
			if f.Groups() != 0 || !bytes.Equal(get(t, d, 1), counter) {
				t.Errorf("%d blocks: %d groups, Counter %v", blocks, f.Groups(), get(t, d, 1))
			}
		}
	}
}

// P4.1: the example: 278 blocks for a tree.
func TestFreeOfTheSmallestDisk(t *testing.T) {
	_, f := made(t, 512)
	if l, e := f.List("/"); f.Free() != 278 || f.Count() != 1 || len(l) != 0 || e != api.OK {
		t.Error(f.Free(), f.Count(), l, e)
	}
}

// P4.1: Format writes only what is fixed, and makes an old tree a new one.
func TestFormatOfATree(t *testing.T) {
	d, f := made(t, 600, dir("/a"), file("/a/f", text(2432)), link("/l", "x"))
	wantDo(t, f, api.OK, gone("/a"))
	was := image(t, d)
	if e := Format(d); e != api.OK {
		t.Fatal(e)
	}
	wantKept(t, d, open(t, d), bare())
	if g := open(t, d).Groups(); g != 0 {
		t.Errorf("Groups: %d", g)
	}
	if now := image(t, d); !bytes.Equal(now[64*dataOf(600):], was[64*dataOf(600):]) {
		t.Error("Format wrote blocks from Data on")
	}
}

// P4.1: disks that are too small are refused, also while the power is off, and nothing is written.
func TestRefusedSizes(t *testing.T) {
	for _, blocks := range []int{1, 2, 200, 234, 511} {
		d := littered(t, blocks)
		for range 2 {
			writes := d.Writes()
			if e := Format(d); e != api.ErrArg || d.Writes() != writes {
				t.Errorf("%d blocks: Format: %d, %d writes", blocks, e, d.Writes()-writes)
			}
			wantOpenError(t, "too small", d, api.ErrArg)
			d.Fuse(0)
			d.Write(0, make([]byte, 64))
		}
	}
	var none disk.Disk
	wantOpenError(t, "no blocks", &none, api.ErrArg)
}

// P4.1: a disk that was never formatted has no tree.
func TestNoTree(t *testing.T) {
	for _, blocks := range []int{512, 4096} {
		wantOpenError(t, "new", newDisk(t, blocks), api.ErrCorrupt)
		wantOpenError(t, "littered", littered(t, blocks), api.ErrCorrupt)
	}
}

// P4.1: without power there is nothing to be made or found.
func TestFormatAndOpenWithoutPower(t *testing.T) {
	d, _ := made(t, 512)
	d.Fuse(0)
	if e := Format(d); e != api.ErrPower {
		t.Errorf("Format: %d", e)
	}
	if e := Format(d); e != api.ErrPower {
		t.Errorf("Format: %d", e)
	}
	wantOpenError(t, "no power", d, api.ErrPower)
	d.Boot()
	wantTree(t, open(t, d), bare())
}

// P4.1: a disk with the blocks of another size's tree has none.
func TestTreeOfAnotherSize(t *testing.T) {
	small, _ := made(t, 600)
	great := newDisk(t, 700) // its areas stand where those of 600 blocks stand
	for i := range 600 {
		put(t, great, i, get(t, small, i))
	}
	wantOpenError(t, "a greater disk", great, api.ErrCorrupt)
}

// P4.1, R9: what is opened twice is the same.
func TestOpenTwice(t *testing.T) {
	d, f := made(t, 512)
	m := bare().steps(t, f, dir("/a"), file("/a/f", "x"), link("/l", "/a"), mode("/a/f", 1))
	writes := d.Writes()
	wantTree(t, open(t, d), m)
	wantTree(t, open(t, d), m)
	if d.Writes() != writes || open(t, d).Groups() != 4 {
		t.Errorf("Open wrote %d blocks", d.Writes()-writes)
	}
}

// P4.1: what blocks hold that no tree uses is of no weight.
func TestLitterBesideTheTree(t *testing.T) {
	d, f := made(t, 512)
	m := bare().steps(t, f, dir("/a"), file("/a/f", text(500)), file("/g", "y"), gone("/a/f"))
	_, _, free := f.Audit()
	for _, i := range append(free, 1, 50, 200) { // the Counter, and what the journal no more owes
		put(t, d, i, bytes.Repeat([]byte{0xaa}, 64))
	}
	wantTree(t, open(t, d), m)
}

// broken is a disk with a small tree, for tests that break it.
type broken struct {
	t   *testing.T
	d   *disk.Disk
	lay api.Layout
}

// breakable: the root has d (a directory with f, of 7 blocks, and l, a link), and g, an empty file.
func breakable(t *testing.T) broken {
	t.Helper()
	d, f := made(t, 512, dir("/d"), file("/d/f", text(400)), link("/d/l", "/g"), file("/g", ""))
	wantTree(t, open(t, d), bare().steps(t, f, dir("/d"), file("/d/f", text(400)), link("/d/l", "/g"), file("/g", "")))
	lay, _ := layout.Of(512)
	return broken{t, d, lay}
}

// Where breakable's nodes stand, as they were made.
const (
	slotRoot = iota
	slotD
	slotF
	slotL
	slotG
	slotNone
)

func (x broken) record(slot int) []byte {
	return get(x.t, x.d, x.lay.Nodes+slot/2)[slot%2*32:][:32]
}

func (x broken) setRecord(slot int, r []byte) {
	b := get(x.t, x.d, x.lay.Nodes+slot/2)
	copy(b[slot%2*32:], r)
	put(x.t, x.d, x.lay.Nodes+slot/2, b)
}

// node is a node with all its blocks.
func (x broken) node(slot int) api.Inode {
	n, left, e := layout.TakeNode(x.record(slot))
	if e != api.OK {
		x.t.Fatalf("slot %d: %d", slot, e)
	}
	if left > 0 {
		l, _ := layout.TakeMore(get(x.t, x.d, n.More), left)
		n.Blocks = append(n.Blocks, l...)
	}
	return n
}

// setNode lays a node and its further block.
func (x broken) setNode(slot int, n api.Inode) {
	r, more, e := layout.PutNode(n)
	if e != api.OK {
		x.t.Fatalf("%v: %d", n, e)
	}
	x.setRecord(slot, r)
	if more != nil {
		put(x.t, x.d, n.More, more)
	}
}

// setEntries lays a directory of at most two entries into its one block.
func (x broken) setEntries(slot int, l ...api.Entry) {
	b, e := layout.PutEntries(l)
	if e != api.OK {
		x.t.Fatalf("%v: %d", l, e)
	}
	n := x.node(slot)
	n.Size = len(l)
	put(x.t, x.d, n.Blocks[0], append(b, make([]byte, 64-len(b))...))
	x.setNode(slot, n)
}

// setBit tells in the bitmap whether a block is used.
func (x broken) setBit(i int, yes bool) {
	b := get(x.t, x.d, x.lay.Bitmap)
	b[i/8] &^= 1 << (i % 8)
	if yes {
		b[i/8] |= 1 << (i % 8)
	}
	put(x.t, x.d, x.lay.Bitmap, b)
}

// spare is a block that the tree does not use.
func (x broken) spare() int {
	_, _, free := open(x.t, x.d).Audit()
	return free[3]
}

// P4.1: each thing that makes a disk one without a tree, alone: the rest is as it would have to be.
func TestBrokenTrees(t *testing.T) {
	for why, work := range breaks() {
		x := breakable(t)
		work(x)
		wantOpenError(t, why, x.d, api.ErrCorrupt)
	}
	x := breakable(t)
	x.setEntries(slotD, api.Entry{Node: slotF, Name: "f"}, api.Entry{Node: slotL, Name: "m"})
	if l, e := open(t, x.d).List("/d"); e != api.OK || !slices.Equal(l, []string{"f", "m"}) {
		t.Errorf("an unbroken change: %v, %d", l, e)
	}
}

func breaks() map[string]func(broken) {
	return map[string]func(broken){
		"no super block":     func(x broken) { put(x.t, x.d, 0, make([]byte, 64)) },
		"super block's end":  func(x broken) { b := get(x.t, x.d, 0); b[63] = 1; put(x.t, x.d, 0, b) },
		"no journal":         func(x broken) { put(x.t, x.d, 2, make([]byte, 64)) },
		"no nodes":           func(x broken) { x.setRecord(slotRoot, make([]byte, 32)) },
		"a free block, used": func(x broken) { x.setBit(x.spare(), true) },
		"a used block, free": func(x broken) { x.setBit(x.node(slotL).Blocks[0], false) },
		"More, free":         func(x broken) { x.setBit(x.node(slotF).More, false) },
		"a fixed one, free":  func(x broken) { x.setBit(7, false) },
		"the last one, used": func(x broken) { x.setBit(511, true) },
		"a root that is a file": func(x broken) {
			n := x.node(slotRoot)
			n.Kind = api.KindFile
			x.setNode(slotRoot, n)
			for slot := slotD; slot < slotNone; slot++ {
				x.setRecord(slot, make([]byte, 32))
			}
			for i := x.lay.Data; i < 512; i++ {
				x.setBit(i, i == n.Blocks[0])
			}
		},
		"a link with a mode": func(x broken) { n := x.node(slotL); n.Mode = 1; x.setNode(slotL, n) },
		"a node nobody names": func(x broken) {
			x.setNode(slotNone, api.Inode{Kind: api.KindFile})
		},
		"litter in a free node": func(x broken) { x.setRecord(63, bytes.Repeat([]byte{9}, 32)) },
		"litter in a node":      func(x broken) { x.setRecord(slotG, bytes.Repeat([]byte{9}, 32)) },
		"a name of no node":     func(x broken) { x.setRecord(slotG, make([]byte, 32)) },
		"a directory's litter": func(x broken) {
			put(x.t, x.d, x.node(slotD).Blocks[0], bytes.Repeat([]byte{9}, 64))
		},
		"a node with two names": func(x broken) {
			x.setEntries(slotD, api.Entry{Node: slotF, Name: "f"}, api.Entry{Node: slotG, Name: "g"})
			x.setBit(x.node(slotL).Blocks[0], false)
			x.setRecord(slotL, make([]byte, 32))
		},
		"two names in one directory": func(x broken) {
			x.setEntries(slotD, api.Entry{Node: slotF, Name: "e"}, api.Entry{Node: slotF, Name: "f"})
			x.setBit(x.node(slotL).Blocks[0], false)
			x.setRecord(slotL, make([]byte, 32))
		},
		"a directory in itself": func(x broken) {
			x.setEntries(slotD, api.Entry{Node: slotD, Name: "d"}, api.Entry{Node: slotF, Name: "f"})
			x.setBit(x.node(slotL).Blocks[0], false)
			x.setRecord(slotL, make([]byte, 32))
		},
		"a directory beside the tree": func(x broken) {
			x.setEntries(slotRoot, api.Entry{Node: slotG, Name: "g"})
			x.setEntries(slotD, api.Entry{Node: slotD, Name: "d"}, api.Entry{Node: slotF, Name: "f"})
		},
		"a fixed block": func(x broken) { x.moveLink(x.lay.Data - 1) },
		"the Counter":   func(x broken) { x.moveLink(1) },
		"a block behind the disk": func(x broken) {
			x.moveLink(512)
		},
		"the last block there may be": func(x broken) { x.moveLink(4095) },
		"a block of another node":     func(x broken) { x.moveLink(x.node(slotF).Blocks[2]) },
		"a More of another node":      func(x broken) { x.moveLink(x.node(slotF).More) },
		"a block twice": func(x broken) {
			n := x.node(slotF)
			x.setBit(n.Blocks[3], false)
			n.Blocks[3] = n.Blocks[2]
			x.setNode(slotF, n)
		},
		"a block that is More": func(x broken) {
			n := x.node(slotF)
			x.setBit(n.Blocks[6], false)
			n.Blocks[6] = n.More
			x.setNode(slotF, n)
		},
		"a More behind the disk": func(x broken) { x.moveMore(600) },
		"a More that is fixed":   func(x broken) { x.moveMore(x.lay.Nodes) },
		"a More of litter": func(x broken) {
			put(x.t, x.d, x.node(slotF).More, bytes.Repeat([]byte{200}, 64))
		},
		"a More of noughts": func(x broken) { put(x.t, x.d, x.node(slotF).More, make([]byte, 64)) },
	}
}

// moveLink gives the link another block, and tells the old one as free.
func (x broken) moveLink(to int) {
	n := x.node(slotL)
	x.setBit(n.Blocks[0], false)
	n.Blocks[0] = to
	x.setNode(slotL, n)
}

// moveMore gives the file another further block, with its bytes where there is such a block, and tells the old one as free.
func (x broken) moveMore(to int) {
	n := x.node(slotF)
	more := get(x.t, x.d, n.More)
	x.setBit(n.More, false)
	n.More = to
	r, _, _ := layout.PutNode(n)
	if to < 512 {
		x.d.Write(to, more)
	}
	x.setRecord(slotF, r)
}

// P4.1: the breaks above start from places that are as they say.
func TestBreakableNodes(t *testing.T) {
	x := breakable(t)
	for slot, kind := range []int{api.KindDir, api.KindDir, api.KindFile, api.KindLink, api.KindFile} {
		if n := x.node(slot); n.Kind != kind {
			t.Errorf("slot %d: %v", slot, n)
		}
	}
	moved := breakable(t)
	spare := moved.spare()
	put(t, moved.d, spare, get(t, moved.d, moved.node(slotL).Blocks[0]))
	moved.moveLink(spare)
	moved.setBit(spare, true)
	if b, e := open(t, moved.d).Read("/d/l"); e != api.OK || string(b) != "/g" {
		t.Errorf("a link that was moved soundly: %q, %d", b, e)
	}
}

// P4.1, R4: whichever byte of a tree's blocks is another one, Open answers, and what it finds is a tree that goes on.
func TestEveryByteBroken(t *testing.T) {
	x := breakable(t)
	_, used, _ := open(t, x.d).Audit()
	places := []int{x.lay.Super, x.lay.Journal, x.lay.Bitmap}
	for i := range 32 {
		places = append(places, x.lay.Nodes+i)
	}
	found := 0
	for _, i := range append(places, used...) {
		for at := range 64 {
			for _, v := range []byte{0, 1, 2, 3, 64, 128, 255} {
				d := x.d.Clone()
				b := get(t, d, i)
				b[at] ^= v
				put(t, d, i, b)
				f, e := Open(d)
				switch {
				case e == api.OK:
					found++
					wantSound(t, f)
				case e != api.ErrCorrupt || f != nil:
					t.Fatalf("byte %d of block %d: %v, %d", at, i, f, e)
				}
			}
		}
	}
	if found == 0 {
		t.Error("no tree was found")
	}
}

// wantSound: each block of the disk stands in one list, and the tree can be emptied.
func wantSound(t *testing.T, f *FS) {
	t.Helper()
	fixed, used, free := f.Audit()
	all := slices.Concat(fixed, used, free)
	slices.Sort(all)
	if len(all) != f.d.Len() || len(slices.Compact(all)) != f.d.Len() || len(free) != f.Free() {
		t.Fatalf("Audit: %v, %v, %v", fixed, used, free)
	}
	names, e := f.List("/")
	if e != api.OK {
		t.Fatal(e)
	}
	for _, s := range names {
		wantDo(t, f, api.OK, gone("/"+s))
	}
	if f.Count() != 1 || f.Free() != 278 {
		t.Fatalf("emptied: Count %d, Free %d", f.Count(), f.Free())
	}
	open(t, f.d)
}

// R1: a file system that no Open gave answers, and has nothing.
func TestNoFileSystem(t *testing.T) {
	var f FS
	if s, e := f.Stat("/"); e != api.ErrCorrupt || s != (api.Node{}) {
		t.Error(s, e)
	}
	if b, e := f.Read("/"); e != api.ErrCorrupt || b != nil {
		t.Error(b, e)
	}
	if l, e := f.List("/"); e != api.ErrCorrupt || l != nil {
		t.Error(l, e)
	}
	if e := f.Do([]api.Edit{dir("/a")}); e != api.ErrCorrupt {
		t.Error(e)
	}
	fixed, used, free := f.Audit()
	if f.Free() != 0 || f.Count() != 0 || f.Groups() != 0 || len(fixed)+len(used)+len(free) != 0 {
		t.Error(f.Free(), f.Count(), f.Groups(), fixed, used, free)
	}
}
