package journal

import (
	"bytes"
	"math"
	"testing"

	"majordomo/api"
	"majordomo/disk"
)

// places is how many blocks a journal has, as the document says it.
const places = 7 + api.MaxGroup

func filled(v byte) []byte { return bytes.Repeat([]byte{v}, api.BlockSize) }

func newDisk(t *testing.T, blocks int) *disk.Disk {
	t.Helper()
	d, e := disk.New(blocks)
	if e != api.OK {
		t.Fatalf("disk.New(%d): %d", blocks, e)
	}
	return d
}

// littered is a disk whose blocks are all full of bytes that nobody made sense of.
func littered(t *testing.T, blocks int) *disk.Disk {
	t.Helper()
	d := newDisk(t, blocks)
	for i := range blocks {
		b := make([]byte, api.BlockSize)
		for k := range b {
			b[k] = byte(i*31 + k*7 + 1)
		}
		if e := d.Write(i, b); e != api.OK {
			t.Fatal(e)
		}
	}
	return d
}

func format(t *testing.T, d *disk.Disk, at int) {
	t.Helper()
	if e := Format(d, at); e != api.OK {
		t.Fatalf("Format(%d): %d", at, e)
	}
}

func open(t *testing.T, d *disk.Disk, at int) *Journal {
	t.Helper()
	j, e := Open(d, at)
	if e != api.OK || j == nil {
		t.Fatalf("Open(%d): %v, %d", at, j, e)
	}
	return j
}

func fresh(t *testing.T, blocks, at int) (*disk.Disk, *Journal) {
	t.Helper()
	d := newDisk(t, blocks)
	format(t, d, at)
	return d, open(t, d, at)
}

func wantOpenError(t *testing.T, d *disk.Disk, at int, want api.Errno) {
	t.Helper()
	if j, e := Open(d, at); j != nil || e != want {
		t.Errorf("Open(%d): %v, %d; want none, %d", at, j, e, want)
	}
}

func wantCommit(t *testing.T, j *Journal, l []api.Put, want api.Errno) {
	t.Helper()
	if e := j.Commit(l); e != want {
		t.Errorf("Commit of %d writes: %d; want %d", len(l), e, want)
	}
}

func wantGroups(t *testing.T, j *Journal, want int) {
	t.Helper()
	if j.Groups() != want {
		t.Errorf("Groups: %d; want %d", j.Groups(), want)
	}
}

// image is all of a disk's blocks.
func image(t *testing.T, d *disk.Disk) [][]byte {
	t.Helper()
	var l [][]byte
	for i := range d.Len() {
		b, e := d.Read(i)
		if e != api.OK {
			t.Fatalf("Read(%d): %d", i, e)
		}
		l = append(l, b)
	}
	return l
}

// with is an image behind a group's writes.
func with(was [][]byte, l []api.Put) [][]byte {
	now := append([][]byte(nil), was...)
	for _, p := range l {
		now[p.Block] = p.Bytes
	}
	return now
}

// sameBeside tells whether two images are the same but for the journal's blocks.
func sameBeside(a, b [][]byte, at int) bool {
	for i := range a {
		if (i < at || i >= at+places) && !bytes.Equal(a[i], b[i]) {
			return false
		}
	}
	return true
}

func wantImage(t *testing.T, d *disk.Disk, at int, want [][]byte) {
	t.Helper()
	if !sameBeside(image(t, d), want, at) {
		t.Error("the blocks beside the journal are not as they should be")
	}
}

// group is n writes of the disk's last blocks, in falling order.
func group(blocks, n int, v byte) []api.Put {
	var l []api.Put
	for i := range n {
		b := filled(v)
		b[0], b[api.BlockSize-1] = byte(i), byte(i+1)
		l = append(l, api.Put{Block: blocks - 1 - i, Bytes: b})
	}
	return l
}

// off is a disk whose power went off.
func off(t *testing.T, d *disk.Disk) *disk.Disk {
	t.Helper()
	d.Fuse(0)
	if e := d.Write(0, filled(1)); e != api.ErrPower || d.On() {
		t.Fatal(e)
	}
	return d
}

// P2.1

func TestFormatRefusesWrongPlaces(t *testing.T) {
	for _, c := range []struct{ blocks, at int }{
		{1, 0}, {places - 1, 0}, {places, 1}, {places, -1}, {300, -1}, {300, 300 - places + 1},
		{300, 299}, {300, 300}, {300, math.MaxInt}, {300, math.MaxInt - places + 1}, {300, math.MinInt},
	} {
		d := newDisk(t, c.blocks)
		if e := Format(d, c.at); e != api.ErrArg || d.Writes() != 0 {
			t.Errorf("Format(disk of %d, %d): %d, %d writes", c.blocks, c.at, e, d.Writes())
		}
		wantOpenError(t, d, c.at, api.ErrArg)
	}
}

func TestFormatAtTheEdges(t *testing.T) {
	for _, c := range []struct{ blocks, at int }{
		{places, 0}, {places + 1, 1}, {300, 0}, {300, 2}, {300, 300 - places}, {api.MaxBlocks, api.MaxBlocks - places},
	} {
		_, j := fresh(t, c.blocks, c.at)
		wantGroups(t, j, 0)
	}
}

func TestFormatWhateverWasThere(t *testing.T) {
	const blocks, at = 400, 30
	owing := newDisk(t, blocks)
	format(t, owing, at)
	owe(t, owing, at, group(blocks, 40, 9))
	used, j := fresh(t, blocks, at)
	wantCommit(t, j, group(blocks, 50, 8), api.OK)
	for _, d := range []*disk.Disk{newDisk(t, blocks), littered(t, blocks), owing, used} {
		was := image(t, d)
		format(t, d, at)
		wantImage(t, d, at, was)
		wantGroups(t, open(t, d, at), 0)
		wantImage(t, d, at, was)
	}
}

// owe leaves a group stored in the journal, and none of its writes done.
func owe(t *testing.T, d *disk.Disk, at int, l []api.Put) {
	t.Helper()
	was := image(t, d)
	j := open(t, d, at)
	d.Fuse(len(l) + (len(l)+31)/32 + 1)
	wantCommit(t, j, l, api.ErrPower)
	d.Boot()
	wantImage(t, d, at, was)
	if g := open(t, d.Clone(), at).Groups(); g != j.Groups()+1 {
		t.Fatalf("no group is owed: %d groups", g)
	}
}

func TestFormatWhileOff(t *testing.T) {
	d := off(t, newDisk(t, 300))
	if e := Format(d, 300); e != api.ErrArg {
		t.Error(e)
	}
	if e := Format(d, 0); e != api.ErrPower {
		t.Error(e)
	}
	d.Boot()
	wantOpenError(t, d, 0, api.ErrCorrupt)
}

// P2.2

func TestOpenWithoutAJournal(t *testing.T) {
	wantOpenError(t, newDisk(t, 300), 0, api.ErrCorrupt)
	wantOpenError(t, newDisk(t, places), 0, api.ErrCorrupt)
	d := littered(t, 300)
	was := image(t, d)
	for at := range 300 - places + 1 {
		wantOpenError(t, d, at, api.ErrCorrupt)
	}
	wantOpenError(t, d, 300-places+1, api.ErrArg)
	wantImage(t, d, 300, was)
}

func TestOpenBesideAJournal(t *testing.T) {
	d, j := fresh(t, 500, 20)
	wantCommit(t, j, group(500, api.MaxGroup, 3), api.OK)
	for at := range 500 - places + 1 {
		if at != 20 {
			wantOpenError(t, d, at, api.ErrCorrupt)
		}
	}
	wantGroups(t, open(t, d, 20), 1)
}

// A block that is written as a journal's first one is, elsewhere, makes no journal there.
func TestOpenOfACopiedHead(t *testing.T) {
	d, j := fresh(t, 500, 0)
	b, _ := d.Read(0)
	wantCommit(t, j, []api.Put{{Block: 250, Bytes: b}}, api.OK)
	for at := range 500 - places + 1 {
		if at != 0 {
			wantOpenError(t, d, at, api.ErrCorrupt)
		}
	}
}

func TestOpenOfAnyBrokenHead(t *testing.T) {
	d, j := fresh(t, 300, 7)
	wantCommit(t, j, nil, api.OK)
	whole, _ := d.Read(7)
	was := image(t, d)
	for i := range whole {
		for bit := range 8 {
			b := bytes.Clone(whole)
			b[i] ^= 1 << bit
			d.Write(7, b)
			if k, e := Open(d, 7); e != api.OK && (e != api.ErrCorrupt || k != nil) {
				t.Errorf("byte %d, bit %d: %v, %d", i, bit, k, e)
			}
			wantImage(t, d, 7, was)
		}
	}
	for v := range 256 {
		d.Write(7, filled(byte(v)))
		wantOpenError(t, d, 7, api.ErrCorrupt)
	}
}

func TestOpenOfHeadsThatNoCommitLeaves(t *testing.T) {
	const at = 9
	d := newDisk(t, 300)
	for _, h := range []head{{groups: -1}, {groups: math.MinInt}, {owed: true, size: api.MaxGroup + 1}, {owed: true, size: 65535}, {size: 1}} {
		b := h.encode(at)
		d.Write(at, b[:])
		wantOpenError(t, d, at, api.ErrCorrupt)
	}
}

// What is owed was stored by Commit, so anything else that stands there is no journal.
func TestOpenOfAnOwedGroupThatIsNone(t *testing.T) {
	const blocks, at = 400, 10
	for _, c := range []struct {
		name    string
		numbers [3]int
	}{
		{"twice", [3]int{300, 301, 300}}, {"the head", [3]int{300, 301, at}}, {"the journal's end", [3]int{300, 301, at + places - 1}},
		{"behind the disk", [3]int{300, 301, blocks}}, {"the greatest number", [3]int{65535, 301, 302}},
	} {
		d, _ := fresh(t, blocks, at)
		owe(t, d, at, group(blocks, 3, 5))
		b, _ := d.Read(at + 1)
		for i, n := range c.numbers {
			b[2*i], b[2*i+1] = byte(n>>8), byte(n)
		}
		d.Write(at+1, b)
		was, writes := image(t, d), d.Writes()
		wantOpenError(t, d, at, api.ErrCorrupt)
		wantImage(t, d, blocks, was)
		if d.Writes() != writes {
			t.Errorf("%s: %d blocks written", c.name, d.Writes()-writes)
		}
	}
}

func TestOpenWhileOff(t *testing.T) {
	d, _ := fresh(t, 300, 0)
	off(t, d)
	wantOpenError(t, d, -1, api.ErrArg)
	wantOpenError(t, d, 0, api.ErrPower)
	wantOpenError(t, off(t, newDisk(t, 300)), 0, api.ErrPower)
}

func TestOpenPerformsWhatIsOwed(t *testing.T) {
	const blocks, at = 420, 11
	for _, n := range []int{0, 1, 31, 32, 33, 64, 65, api.MaxGroup} {
		d, _ := fresh(t, blocks, at)
		was, l := image(t, d), group(blocks, n, 6)
		owe(t, d, at, l)
		wantGroups(t, open(t, d, at), 1)
		wantImage(t, d, at, with(was, l))
	}
}

// P2.3

func TestCommitSizes(t *testing.T) {
	const blocks, at = 500, 40
	for _, n := range []int{0, 1, 2, 31, 32, 33, 63, 64, 65, 160, 161, api.MaxGroup - 1, api.MaxGroup} {
		d := littered(t, blocks)
		format(t, d, at)
		j, was, l := open(t, d, at), image(t, d), group(blocks, n, 4)
		wantCommit(t, j, l, api.OK)
		wantGroups(t, j, 1)
		wantImage(t, d, at, with(was, l))
	}
}

func TestCommitAtTheEdges(t *testing.T) {
	for _, c := range []struct{ blocks, at int }{{300, 0}, {300, 1}, {300, 50}, {300, 300 - places}, {api.MaxBlocks, 2}, {api.MaxBlocks, api.MaxBlocks - places}} {
		d, j := fresh(t, c.blocks, c.at)
		was := image(t, d)
		var l []api.Put
		for i, b := range []int{0, c.at - 1, c.at + places, c.blocks - 1} {
			inside := b >= c.at && b < c.at+places
			double := i == 1 && b == 0 || i == 3 && b == c.at+places
			if b >= 0 && b < c.blocks && !inside && !double {
				l = append(l, api.Put{Block: b, Bytes: filled(byte(i + 1))})
			}
		}
		wantCommit(t, j, l, api.OK)
		wantImage(t, d, c.at, with(was, l))
	}
}

func TestCommitRefusesWhatIsNoGroup(t *testing.T) {
	const blocks, at = 600, 100
	ok := api.Put{Block: 400, Bytes: filled(1)}
	cases := [][]api.Put{
		{{Block: at, Bytes: filled(1)}}, {{Block: at + 1, Bytes: filled(1)}}, {{Block: at + places - 1, Bytes: filled(1)}},
		{{Block: -1, Bytes: filled(1)}}, {{Block: blocks, Bytes: filled(1)}}, {{Block: math.MaxInt, Bytes: filled(1)}},
		{{Block: math.MinInt, Bytes: filled(1)}}, {{Block: 65536, Bytes: filled(1)}},
		{{Block: 300}}, {{Block: 300, Bytes: []byte{}}}, {{Block: 300, Bytes: filled(1)[1:]}}, {{Block: 300, Bytes: append(filled(1), 1)}},
		{ok, ok}, {ok, {Block: 401, Bytes: filled(2)}, {Block: 400, Bytes: filled(3)}}, {ok, {Block: at, Bytes: filled(2)}},
		{ok, {Block: 401, Bytes: filled(2)[2:]}}, group(blocks, api.MaxGroup+1, 1), group(blocks, 300, 1),
	}
	d, j := fresh(t, blocks, at)
	was, writes := image(t, d), d.Writes()
	for i, l := range cases {
		if e := j.Commit(l); e != api.ErrGroup {
			t.Errorf("case %d: %d", i, e)
		}
	}
	wantGroups(t, j, 0)
	wantImage(t, d, blocks, was)
	if d.Writes() != writes {
		t.Errorf("%d blocks written", d.Writes()-writes)
	}
	off(t, d)
	wantCommit(t, j, cases[0], api.ErrGroup)
	wantCommit(t, j, []api.Put{ok}, api.ErrPower)
	wantCommit(t, j, nil, api.ErrPower)
	wantGroups(t, j, 0)
}

func TestCommitNeitherChangesNorKeepsItsArgument(t *testing.T) {
	d, j := fresh(t, 300, 0)
	memory := append(filled(1), filled(2)...)
	spare := []api.Put{{Block: 250, Bytes: memory[:api.BlockSize]}, {Block: 77, Bytes: nil}}
	wantCommit(t, j, spare[:1], api.OK)
	if !bytes.Equal(memory, append(filled(1), filled(2)...)) || spare[0].Block != 250 || spare[1].Block != 77 || spare[1].Bytes != nil {
		t.Error("Commit changed what it was given")
	}
	memory[0] = 9
	if b, _ := d.Read(250); !bytes.Equal(b, filled(1)) {
		t.Error(b)
	}
}

func TestCommitTakesSharedBytes(t *testing.T) {
	d, j := fresh(t, 300, 0)
	b := filled(5)
	wantCommit(t, j, []api.Put{{Block: 250, Bytes: b}, {Block: 251, Bytes: b}}, api.OK)
	was := with(image(t, newDisk(t, 300)), []api.Put{{Block: 250, Bytes: b}, {Block: 251, Bytes: b}})
	wantImage(t, d, 0, was)
}

func TestJournalsBesideEachOther(t *testing.T) {
	d, j := fresh(t, 500, 0)
	format(t, d, places)
	k := open(t, d, places)
	wantCommit(t, j, group(500, 3, 1), api.OK)
	wantCommit(t, k, group(500, 2, 2), api.OK)
	wantCommit(t, k, nil, api.OK)
	wantGroups(t, open(t, d, 0), 1)
	wantGroups(t, open(t, d, places), 2)
	want := with(with(image(t, newDisk(t, 500)), group(500, 3, 1)), group(500, 2, 2))
	if !sameBeside(image(t, d)[2*places:], want[2*places:], 500) {
		t.Error("not the blocks of the two journals' groups")
	}
}

// P2.4

func TestGroupsCount(t *testing.T) {
	const blocks, at = 300, 3
	d, j := fresh(t, blocks, at)
	for n := range 700 {
		wantGroups(t, j, n)
		wantCommit(t, j, group(blocks, n%3, byte(n)), api.OK)
		wantGroups(t, j, n+1)
		wantCommit(t, j, []api.Put{{Block: at}}, api.ErrGroup)
		if n%50 == 0 {
			j = open(t, d, at)
		}
	}
	wantGroups(t, open(t, d, at), 700)
	off(t, d)
	wantGroups(t, j, 700)
	d.Boot()
	wantGroups(t, open(t, d, at), 700)
	format(t, d, at)
	wantGroups(t, open(t, d, at), 0)
}

func TestHeadKeepsGreatCounts(t *testing.T) {
	for _, n := range []int{0, 255, 256, 65535, 65536, math.MaxInt32, math.MaxInt32 + 1} {
		want := head{groups: n, owed: true, size: api.MaxGroup}
		b := want.encode(api.MaxBlocks - places)
		if h, ok := decodeHead(b[:], api.MaxBlocks-places); !ok || h != want {
			t.Errorf("%d: %v, %v", n, h, ok)
		}
	}
}

// P2.6

func TestSecondOpenFindsTheSame(t *testing.T) {
	const blocks, at = 420, 5
	for _, n := range []int{0, 2, api.MaxGroup} {
		d, j := fresh(t, blocks, at)
		wantCommit(t, j, group(blocks, 4, 1), api.OK)
		owe(t, d, at, group(blocks, n, 2))
		wantGroups(t, open(t, d, at), 2)
		was, writes := image(t, d), d.Writes()
		for range 3 {
			wantGroups(t, open(t, d, at), 2)
		}
		wantImage(t, d, blocks, was)
		if d.Writes() != writes {
			t.Errorf("%d blocks written", d.Writes()-writes)
		}
	}
}

// An Open with nothing owed needs no write, and so no fuse stops it.
func TestOpenBehindACommitWritesNothing(t *testing.T) {
	d, j := fresh(t, 300, 0)
	wantCommit(t, j, group(300, 5, 1), api.OK)
	d.Fuse(0)
	wantGroups(t, open(t, d, 0), 1)
	if !d.On() {
		t.Error("Open wrote")
	}
}

// R1: a Journal that Open did not give does not panic.
func TestZeroJournal(t *testing.T) {
	var j Journal
	if e := j.Commit(nil); e == api.OK {
		t.Error("a Journal without a disk did a group")
	}
	if e := j.Commit(group(300, 1, 1)); e == api.OK {
		t.Error("a Journal without a disk did a group")
	}
	wantGroups(t, &j, 0)
}

// A piece of memory ends where its block ends, its capacity too.
func TestPieceKeepsToItself(t *testing.T) {
	memory := append(append(filled(1), filled(2)...), filled(3)...)
	b := piece(memory, 1)
	if !bytes.Equal(b, filled(2)) || cap(b) != api.BlockSize {
		t.Error(b, cap(b))
	}
}

// The document's examples, in their order.
func TestExamples(t *testing.T) {
	d := newDisk(t, 300)
	wantOpenError(t, d, 0, api.ErrCorrupt)
	format(t, d, 0)
	j := open(t, d, 0)
	wantGroups(t, j, 0)
	was := image(t, d)
	l := []api.Put{{Block: 200, Bytes: filled(1)}, {Block: 201, Bytes: filled(2)}}
	wantCommit(t, j, l, api.OK)
	wantGroups(t, j, 1)
	wantImage(t, d, 0, with(was, l))
	wantCommit(t, j, []api.Put{l[0], l[0]}, api.ErrGroup)
	wantCommit(t, j, []api.Put{{Block: 5, Bytes: filled(1)}}, api.ErrGroup)
	wantCommit(t, j, []api.Put{{Block: 200, Bytes: filled(1)[:3]}}, api.ErrGroup)
	d.Fuse(0)
	wantCommit(t, j, []api.Put{{Block: 200, Bytes: filled(3)}}, api.ErrPower)
	d.Boot()
	wantGroups(t, open(t, d, 0), 1)
	wantImage(t, d, 0, with(was, l))
}
