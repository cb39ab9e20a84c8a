// Package disk is layer 1: blocks: see shared/doc/01-disk.md.
package disk

import (
	"maps"

	"majordomo/api"
)

// block is an array so that storing one, or copying a map of them, shares no memory.
type block [api.BlockSize]byte

// Disk has blocks. Only those that were written are kept, as the others are noughts.
// The power is held as off, and the fuse beside whether it is set, so that the zero Disk is a sound one without blocks.
type Disk struct {
	size   int
	blocks map[int]block
	off    bool
	fused  bool
	left   int
	writes int
}

// New is one whose blocks are noughts.
func New(blocks int) (*Disk, api.Errno) {
	if blocks < 1 || blocks > api.MaxBlocks {
		return nil, api.ErrArg
	}
	return &Disk{size: blocks, blocks: map[int]block{}}, api.OK
}

// Len is how many blocks there are; Read reads one; Write writes one.
func (d *Disk) Len() int { return d.size }

func (d *Disk) Read(i int) ([]byte, api.Errno) {
	if e := d.reach(i); e != api.OK {
		return nil, e
	}
	b := d.blocks[i]
	return b[:], api.OK
}

func (d *Disk) Write(i int, b []byte) api.Errno {
	if e := d.reach(i); e != api.OK {
		return e
	}
	if len(b) != api.BlockSize {
		return api.ErrBytes
	}
	if !d.burn() {
		return api.ErrPower
	}
	d.blocks[i] = block(b)
	d.writes++
	return api.OK
}

// Fuse lets the power go off ahead of a write (below 0: not); On tells whether it is on; Boot turns it on; Writes is how many were done.
func (d *Disk) Fuse(n int) {
	if d.off {
		return
	}
	d.fused, d.left = n >= 0, max(n, 0)
}

func (d *Disk) On() bool { return !d.off }

func (d *Disk) Boot() {
	d.off = false
	d.unfuse()
}

func (d *Disk) Writes() int { return d.writes }

// Clone goes its own way.
func (d *Disk) Clone() *Disk {
	c := *d
	c.blocks = maps.Clone(d.blocks)
	return &c
}

// reach tells why block i can't be reached, if it can't.
func (d *Disk) reach(i int) api.Errno {
	if d.off {
		return api.ErrPower
	}
	if i < 0 || i >= d.size {
		return api.ErrPlace
	}
	return api.OK
}

// burn takes one write off the fuse, and tells whether the power stayed on.
func (d *Disk) burn() bool {
	if !d.fused {
		return true
	}
	if d.left == 0 {
		d.off = true
		d.unfuse()
		return false
	}
	d.left--
	return true
}

func (d *Disk) unfuse() { d.fused, d.left = false, 0 }
