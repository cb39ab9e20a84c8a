package blockfs

import (
	"majordomo/api"
	"majordomo/disk"
	"majordomo/layout"
)

// block is an array, so that two of them are held against each other as values.
type block [api.BlockSize]byte

// nodeSize is how many bytes a node's record takes.
const nodeSize = 32

// magic begins the super block of a disk with a tree; how many blocks the disk has follows.
const magic = "majordomo tree"

func superBlock(lay api.Layout) block {
	var b block
	rest := b[copy(b[:], magic):]
	rest[0], rest[1] = byte(lay.Blocks>>8), byte(lay.Blocks)
	return b
}

// areas is what the blocks from Bitmap on, as far as Data, hold for a tree.
func areas(lay api.Layout, root *node) []block {
	memory := make([]byte, (lay.Data-lay.Bitmap)*api.BlockSize)
	l := root.all()
	for i, yes := range takenBlocks(lay, l) {
		if yes {
			memory[i/8] |= 1 << (i % 8)
		}
	}
	records := memory[(lay.Nodes-lay.Bitmap)*api.BlockSize:]
	for _, n := range l {
		b, _, e := layout.PutNode(n.inode())
		sure(e)
		copy(records[n.slot*nodeSize:], b)
	}
	return cut(memory)
}

// cut is memory as blocks, the last one filled up with noughts.
func cut(memory []byte) []block {
	var l []block
	for len(memory) > 0 {
		var b block
		memory = memory[copy(b[:], memory):]
		l = append(l, b)
	}
	return l
}

func (n *node) inode() api.Inode {
	return api.Inode{Kind: n.kind, Mode: n.mode, Size: n.size(), Blocks: n.blocks, More: n.more}
}

// body is the bytes that a node's blocks hold.
func (n *node) body() []byte {
	if n.kind != api.KindDir {
		return n.bytes
	}
	var l []api.Entry
	for _, s := range n.names() {
		l = append(l, api.Entry{Node: n.entries[s].slot, Name: s})
	}
	b, e := layout.PutEntries(l)
	sure(e)
	return b
}

// puts writes a node's blocks, the further one too.
func (n *node) puts() []api.Put {
	var l []api.Put
	for i, b := range cut(n.body()) {
		l = append(l, api.Put{Block: n.blocks[i], Bytes: b[:]})
	}
	if n.more > 0 {
		_, more, e := layout.PutNode(n.inode())
		sure(e)
		l = append(l, api.Put{Block: n.more, Bytes: more})
	}
	return l
}

// changes is the group that makes a disk's tree the next one. It is always one that a journal takes: at most 40 blocks of the areas, 67 of files and links (24 with 2432 bytes in all), and 47 of directories (24 with 63 entries in all).
func changes(lay api.Layout, was, next *node) []api.Put {
	var l []api.Put
	old := areas(lay, was)
	for i, b := range areas(lay, next) {
		if b != old[i] {
			l = append(l, api.Put{Block: lay.Bitmap + i, Bytes: b[:]})
		}
	}
	for _, n := range next.all() {
		if n.fresh {
			l = append(l, n.puts()...)
		}
	}
	return l
}

func write(d *disk.Disk, i int, b block) {
	if e := d.Write(i, b[:]); e != api.OK {
		panic(failed{e})
	}
}
