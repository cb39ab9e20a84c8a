package blockfs

import (
	"majordomo/api"
	"majordomo/disk"
	"majordomo/layout"
)

// loader reads a tree, and panics where there is none. What it has met is kept, since in a tree nothing stands twice.
type loader struct {
	d      *disk.Disk
	lay    api.Layout
	slots  shelf
	blocks shelf
}

func load(d *disk.Disk, lay api.Layout) *node {
	r := &loader{d: d, lay: lay, slots: make(shelf, lay.Count), blocks: takenBlocks(lay, nil)}
	root := r.node(0)
	if root.kind != api.KindDir {
		panic(impossible{})
	}
	// Nodes that no directory names, and blocks that are told as used or free against the tree, show here.
	for i, b := range areas(lay, root) {
		if read(d, lay.Bitmap+i) != b {
			panic(impossible{})
		}
	}
	return root
}

func (r *loader) node(slot int) *node {
	r.slots.claim(slot)
	x := r.inode(slot)
	if x.Kind == api.KindLink && x.Mode != 0 {
		panic(impossible{})
	}
	n := newNode(x.Kind, x.Mode)
	n.slot, n.blocks, n.more = slot, x.Blocks, x.More
	body := r.body(x.Blocks)
	if x.Kind == api.KindDir {
		r.entries(n, body[:x.Size*entrySize])
	} else {
		n.bytes = body[:x.Size]
	}
	return n
}

// inode reads a node's record and its further block.
func (r *loader) inode(slot int) api.Inode {
	const perBlock = api.BlockSize / nodeSize
	b := read(r.d, r.lay.Nodes+slot/perBlock)
	at := slot % perBlock * nodeSize
	x, left, e := layout.TakeNode(b[at : at+nodeSize])
	sure(e)
	if left > 0 {
		r.blocks.claim(x.More)
		b := read(r.d, x.More)
		others, e := layout.TakeMore(b[:], left)
		sure(e)
		x.Blocks = append(x.Blocks, others...)
	}
	return x
}

// body reads what a node's blocks hold.
func (r *loader) body(blocks []int) []byte {
	var l []byte
	for _, i := range blocks {
		r.blocks.claim(i)
		b := read(r.d, i)
		l = append(l, b[:]...)
	}
	return l
}

func (r *loader) entries(n *node, body []byte) {
	l, e := layout.TakeEntries(body)
	sure(e)
	for _, x := range l {
		n.entries[x.Name] = r.node(x.Node)
	}
}

func read(d *disk.Disk, i int) block {
	b, e := d.Read(i)
	if e != api.OK {
		panic(failed{e})
	}
	return block(b)
}
