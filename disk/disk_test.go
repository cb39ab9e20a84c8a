package disk

import (
	"bytes"
	"math"
	"testing"

	"majordomo/api"
)

func filled(v byte) []byte { return bytes.Repeat([]byte{v}, api.BlockSize) }

func newDisk(t *testing.T, blocks int) *Disk {
	t.Helper()
	d, e := New(blocks)
	if e != api.OK || d == nil {
		t.Fatalf("New(%d): %v, %d", blocks, d, e)
	}
	return d
}

func wantBlock(t *testing.T, d *Disk, i int, want []byte) {
	t.Helper()
	if got, e := d.Read(i); e != api.OK || !bytes.Equal(got, want) {
		t.Errorf("Read(%d): %v, %d; want %v", i, got, e, want)
	}
}

func wantReadError(t *testing.T, d *Disk, i int, want api.Errno) {
	t.Helper()
	if got, e := d.Read(i); got != nil || e != want {
		t.Errorf("Read(%d): %v, %d; want none, %d", i, got, e, want)
	}
}

func wantWrite(t *testing.T, d *Disk, i int, b []byte, want api.Errno) {
	t.Helper()
	if e := d.Write(i, b); e != want {
		t.Errorf("Write(%d, %d bytes): %d; want %d", i, len(b), e, want)
	}
}

func wantState(t *testing.T, d *Disk, on bool, writes int) {
	t.Helper()
	if d.On() != on || d.Writes() != writes {
		t.Errorf("On %v, Writes %d; want %v, %d", d.On(), d.Writes(), on, writes)
	}
}

// cutPower switches the power off the only way there is: by a fuse of 0.
func cutPower(t *testing.T, d *Disk) {
	t.Helper()
	d.Fuse(0)
	wantWrite(t, d, 0, filled(255), api.ErrPower)
	if d.On() {
		t.Fatal("the power is on behind a fuse of 0")
	}
}

// P1.1

func TestNewRefusesWrongSizes(t *testing.T) {
	for _, n := range []int{math.MinInt, -1, 0, api.MaxBlocks + 1, math.MaxInt} {
		if d, e := New(n); d != nil || e != api.ErrArg {
			t.Errorf("New(%d): %v, %d", n, d, e)
		}
	}
}

func TestNewIsZeroedAndOn(t *testing.T) {
	for _, n := range []int{1, 2, api.MinBlocks, api.MaxBlocks} {
		d := newDisk(t, n)
		if d.Len() != n {
			t.Errorf("Len of New(%d): %d", n, d.Len())
		}
		wantState(t, d, true, 0)
		for i := range n {
			wantBlock(t, d, i, filled(0))
		}
		wantReadError(t, d, n, api.ErrPlace)
	}
}

func TestNewHasNoFuse(t *testing.T) {
	d := newDisk(t, 1)
	for n := range 300 {
		wantWrite(t, d, 0, filled(byte(n)), api.OK)
	}
	wantState(t, d, true, 300)
}

func TestLenWhileOff(t *testing.T) {
	d := newDisk(t, 7)
	cutPower(t, d)
	if d.Len() != 7 {
		t.Error(d.Len())
	}
}

// P1.2

func TestReadTellsTheLastWrite(t *testing.T) {
	d := newDisk(t, api.MaxBlocks)
	for _, i := range []int{0, 1, 2000, api.MaxBlocks - 1} {
		wantWrite(t, d, i, filled(1), api.OK)
		wantWrite(t, d, i, filled(byte(i)), api.OK)
	}
	for _, i := range []int{0, 1, 2000, api.MaxBlocks - 1} {
		wantBlock(t, d, i, filled(byte(i)))
	}
	wantBlock(t, d, 2, filled(0))
	wantBlock(t, d, 1999, filled(0))
}

func TestReadKeepsEveryByte(t *testing.T) {
	d := newDisk(t, 1)
	b := make([]byte, api.BlockSize)
	for i := range b {
		b[i] = byte(200 + i)
	}
	wantWrite(t, d, 0, b, api.OK)
	wantBlock(t, d, 0, b)
}

func TestReadErrors(t *testing.T) {
	d := newDisk(t, 3)
	for _, i := range []int{math.MinInt, -1, 3, math.MaxInt} {
		wantReadError(t, d, i, api.ErrPlace)
	}
	cutPower(t, d)
	for _, i := range []int{-1, 0, 2, 3} {
		wantReadError(t, d, i, api.ErrPower)
	}
}

func TestReadNeitherBurnsNorCounts(t *testing.T) {
	d := newDisk(t, 1)
	d.Fuse(0)
	for range 3 {
		wantBlock(t, d, 0, filled(0))
	}
	wantState(t, d, true, 0)
}

// P1.3

func TestWriteErrorsInTheirOrder(t *testing.T) {
	d := newDisk(t, 2)
	for _, i := range []int{math.MinInt, -1, 2, math.MaxInt} {
		wantWrite(t, d, i, filled(1), api.ErrPlace)
		wantWrite(t, d, i, nil, api.ErrPlace)
	}
	for _, n := range []int{0, 1, api.BlockSize - 1, api.BlockSize + 1, 2 * api.BlockSize} {
		wantWrite(t, d, 0, make([]byte, n), api.ErrBytes)
	}
	wantWrite(t, d, 0, nil, api.ErrBytes)
	wantState(t, d, true, 0)
	cutPower(t, d)
	wantWrite(t, d, 2, nil, api.ErrPower)
	wantWrite(t, d, 0, nil, api.ErrPower)
	wantWrite(t, d, 0, filled(1), api.ErrPower)
}

func TestWrongWritesChangeNothing(t *testing.T) {
	d := newDisk(t, 2)
	wantWrite(t, d, 0, filled(4), api.OK)
	d.Fuse(1)
	wantWrite(t, d, 2, filled(9), api.ErrPlace)
	wantWrite(t, d, -1, filled(9), api.ErrPlace)
	wantWrite(t, d, 0, filled(9)[1:], api.ErrBytes)
	wantBlock(t, d, 0, filled(4))
	wantBlock(t, d, 1, filled(0))
	wantState(t, d, true, 1)
	wantWrite(t, d, 1, filled(5), api.OK)
	wantWrite(t, d, 1, filled(6), api.ErrPower)
}

func TestWrongWritesDoNotBlowAFuseOfNought(t *testing.T) {
	d := newDisk(t, 1)
	d.Fuse(0)
	wantWrite(t, d, 1, filled(1), api.ErrPlace)
	wantWrite(t, d, 0, nil, api.ErrBytes)
	wantState(t, d, true, 0)
	wantWrite(t, d, 0, filled(1), api.ErrPower)
	wantState(t, d, false, 0)
}

func TestBlownFuseWritesNothingAndIsGone(t *testing.T) {
	d := newDisk(t, 1)
	wantWrite(t, d, 0, filled(3), api.OK)
	cutPower(t, d)
	wantState(t, d, false, 1)
	d.Boot()
	wantBlock(t, d, 0, filled(3))
	for n := range 5 {
		wantWrite(t, d, 0, filled(byte(n)), api.OK)
	}
	wantState(t, d, true, 6)
}

func TestWriteOfTheSameBytesCounts(t *testing.T) {
	d := newDisk(t, 1)
	d.Fuse(2)
	wantWrite(t, d, 0, filled(0), api.OK)
	wantWrite(t, d, 0, filled(0), api.OK)
	wantState(t, d, true, 2)
	wantWrite(t, d, 0, filled(0), api.ErrPower)
	wantState(t, d, false, 2)
}

func TestNoMemoryIsShared(t *testing.T) {
	d := newDisk(t, 1)
	long := append(filled(1), filled(2)...)
	b := long[:api.BlockSize]
	wantWrite(t, d, 0, b, api.OK)
	if !bytes.Equal(long, append(filled(1), filled(2)...)) {
		t.Error("Write changed what it was given")
	}
	b[0] = 77
	wantBlock(t, d, 0, filled(1))
	one, _ := d.Read(0)
	two, _ := d.Read(0)
	one[1] = 78
	if two[1] != 1 {
		t.Error("two answers share memory")
	}
	wantBlock(t, d, 0, filled(1))
}

// P1.4

func TestFuseWhileOffDoesNothing(t *testing.T) {
	for _, n := range []int{-1, 0, 1} {
		d := newDisk(t, 1)
		cutPower(t, d)
		d.Fuse(n)
		wantState(t, d, false, 0)
		d.Boot()
		wantWrite(t, d, 0, filled(1), api.OK)
		wantWrite(t, d, 0, filled(2), api.OK)
		wantState(t, d, true, 2)
	}
}

func TestNegativeFuseRemoves(t *testing.T) {
	for _, n := range []int{-1, -2, math.MinInt} {
		d := newDisk(t, 1)
		d.Fuse(0)
		d.Fuse(n)
		for range 3 {
			wantWrite(t, d, 0, filled(1), api.OK)
		}
		wantState(t, d, true, 3)
	}
}

func TestLaterFuseReplaces(t *testing.T) {
	d := newDisk(t, 1)
	d.Fuse(5)
	d.Fuse(1)
	wantWrite(t, d, 0, filled(1), api.OK)
	d.Fuse(1)
	wantWrite(t, d, 0, filled(2), api.OK)
	wantWrite(t, d, 0, filled(3), api.ErrPower)
	wantState(t, d, false, 2)
}

func TestGreatestFuse(t *testing.T) {
	d := newDisk(t, 1)
	d.Fuse(math.MaxInt)
	wantWrite(t, d, 0, filled(1), api.OK)
	wantState(t, d, true, 1)
}

func TestBootRemovesTheFuseWhileOn(t *testing.T) {
	d := newDisk(t, 2)
	wantWrite(t, d, 1, filled(8), api.OK)
	d.Fuse(0)
	d.Boot()
	wantState(t, d, true, 1)
	wantBlock(t, d, 1, filled(8))
	wantWrite(t, d, 0, filled(1), api.OK)
	wantState(t, d, true, 2)
}

func TestBootKeepsTheBlocks(t *testing.T) {
	d := newDisk(t, 3)
	wantWrite(t, d, 0, filled(1), api.OK)
	wantWrite(t, d, 2, filled(2), api.OK)
	cutPower(t, d)
	d.Boot()
	wantState(t, d, true, 2)
	wantBlock(t, d, 0, filled(1))
	wantBlock(t, d, 1, filled(0))
	wantBlock(t, d, 2, filled(2))
}

// P1.5

func TestCloneIsAnIndependentCopy(t *testing.T) {
	d := newDisk(t, 3)
	wantWrite(t, d, 0, filled(1), api.OK)
	c := d.Clone()
	if c.Len() != 3 {
		t.Error(c.Len())
	}
	wantState(t, c, true, 1)
	wantBlock(t, c, 0, filled(1))
	wantWrite(t, d, 0, filled(2), api.OK)
	wantWrite(t, d, 1, filled(3), api.OK)
	wantWrite(t, c, 2, filled(4), api.OK)
	wantBlock(t, c, 0, filled(1))
	wantBlock(t, c, 1, filled(0))
	wantBlock(t, d, 2, filled(0))
	wantState(t, d, true, 3)
	wantState(t, c, true, 2)
}

func TestCloneHasItsOwnFuse(t *testing.T) {
	d := newDisk(t, 1)
	d.Fuse(1)
	c := d.Clone()
	wantWrite(t, d, 0, filled(1), api.OK)
	wantWrite(t, d, 0, filled(2), api.ErrPower)
	wantState(t, c, true, 0)
	wantWrite(t, c, 0, filled(3), api.OK)
	wantWrite(t, c, 0, filled(4), api.ErrPower)
	d.Boot()
	wantState(t, c, false, 1)
	wantState(t, d, true, 1)
}

func TestCloneWhileOff(t *testing.T) {
	d := newDisk(t, 2)
	wantWrite(t, d, 1, filled(6), api.OK)
	cutPower(t, d)
	c := d.Clone()
	wantState(t, c, false, 1)
	c.Boot()
	wantState(t, d, false, 1)
	wantBlock(t, c, 1, filled(6))
	wantReadError(t, d, 1, api.ErrPower)
}

// P1.6

func TestExactlyTheFirstWritesAreDone(t *testing.T) {
	const tries = 12
	for n := range tries + 1 {
		d := newDisk(t, tries)
		d.Fuse(n)
		for i := range tries {
			want := api.OK
			if i >= n {
				want = api.ErrPower
			}
			wantWrite(t, d, i, filled(byte(i+1)), want)
		}
		wantState(t, d, n == tries, n)
		d.Boot()
		for i := range tries {
			want := filled(0)
			if i < n {
				want = filled(byte(i + 1))
			}
			wantBlock(t, d, i, want)
		}
	}
}

// R1: a Disk that New did not make has no blocks, and does not panic.
func TestZeroDisk(t *testing.T) {
	var d Disk
	wantReadError(t, &d, 0, api.ErrPlace)
	wantWrite(t, &d, 0, filled(1), api.ErrPlace)
	d.Fuse(0)
	d.Boot()
	if c := d.Clone(); c.Len() != 0 || c.Writes() != 0 {
		t.Error(c.Len(), c.Writes())
	}
}

// plain is the disk of chapter 1 told as simply as can be: fuse -1 is none.
type plain struct {
	blocks [][]byte
	fuse   int
	on     bool
	writes int
}

func (p *plain) write(i int, b []byte) api.Errno {
	switch {
	case !p.on:
		return api.ErrPower
	case i < 0 || i >= len(p.blocks):
		return api.ErrPlace
	case len(b) != api.BlockSize:
		return api.ErrBytes
	case p.fuse == 0:
		p.on, p.fuse = false, -1
		return api.ErrPower
	case p.fuse > 0:
		p.fuse--
	}
	p.blocks[i] = bytes.Clone(b)
	p.writes++
	return api.OK
}

func (p *plain) setFuse(n int) {
	if p.on {
		p.fuse = max(n, -1)
	}
}

// TestLikeThePlainDisk holds long mixed runs of calls against the plain disk.
func TestLikeThePlainDisk(t *testing.T) {
	const size = 5
	d := newDisk(t, size)
	p := &plain{fuse: -1, on: true}
	for range size {
		p.blocks = append(p.blocks, filled(0))
	}
	seed := uint32(1)
	next := func(n int) int {
		seed = seed*1664525 + 1013904223
		return int(seed>>16) % n
	}
	for step := range 20000 {
		switch next(12) {
		case 0:
			n := next(9) - 2
			d.Fuse(n)
			p.setFuse(n)
		case 1:
			d.Boot()
			p.on, p.fuse = true, -1
		case 2:
			d = d.Clone()
		case 3:
			wantWrite(t, d, next(size), make([]byte, api.BlockSize-1), p.write(0, nil))
		default:
			i, b := next(size+2)-1, filled(byte(step))
			wantWrite(t, d, i, b, p.write(i, b))
		}
		wantState(t, d, p.on, p.writes)
		i := next(size)
		if p.on {
			wantBlock(t, d, i, p.blocks[i])
		} else {
			wantReadError(t, d, i, api.ErrPower)
		}
		if t.Failed() {
			t.Fatalf("step %d", step)
		}
	}
}
