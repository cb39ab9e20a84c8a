package blockfs

import (
	"majordomo/api"
	"majordomo/layout"
)

// entrySize is how many bytes an entry of a directory takes.
const entrySize = 32

// shelf tells for each number whether it is taken.
type shelf []bool

// claim takes a number for one that says it is its own.
func (s shelf) claim(i int) {
	if i >= len(s) || s[i] {
		panic(impossible{})
	}
	s[i] = true
}

// rest is the numbers that are not taken, rising.
func (s shelf) rest() *pool {
	p := &pool{}
	for i, yes := range s {
		if !yes {
			p.l = append(p.l, i)
		}
	}
	return p
}

// pool hands out numbers, each once.
type pool struct{ l []int }

func (p *pool) take() int {
	if len(p.l) == 0 { // what fits has a place for all
		panic(impossible{})
	}
	i := p.l[0]
	p.l = p.l[1:]
	return i
}

// place gives the nodes of a tree that fits what they lack: a slot, and blocks. A node keeps what it has and needs, so that one that is as it was is not written again, and a group stays small.
func place(lay api.Layout, root *node) {
	l := root.all()
	for _, n := range l {
		n.trim()
	}
	slots, blocks := takenSlots(lay, l).rest(), takenBlocks(lay, l).rest()
	for _, n := range l {
		if n.slot == 0 && n != root {
			n.slot = slots.take()
		}
		n.fill(blocks)
	}
}

func takenSlots(lay api.Layout, l []*node) shelf {
	s := make(shelf, lay.Count)
	for _, n := range l {
		s[n.slot] = true // a node without one tells the root's, which is taken anyway
	}
	return s
}

// takenBlocks is the blocks that are not free: those ahead of Data, and those of nodes.
func takenBlocks(lay api.Layout, l []*node) shelf {
	s := make(shelf, lay.Blocks)
	for i := range lay.Data {
		s[i] = true
	}
	for _, n := range l {
		for _, b := range n.blocks {
			s[b] = true
		}
		if n.more > 0 {
			s[n.more] = true
		}
	}
	return s
}

// need is how many blocks hold what a node has, and whether a further one tells some of them.
func (n *node) need() (content int, more bool) {
	size := n.size()
	if n.kind == api.KindDir {
		size *= entrySize
	}
	content = (size + api.BlockSize - 1) / api.BlockSize
	return content, layout.Cost(n.kind, n.size()) > content
}

// trim gives back the blocks that a node needs no more.
func (n *node) trim() {
	content, more := n.need()
	n.blocks = n.blocks[:min(content, len(n.blocks))]
	if !more {
		n.more = 0
	}
}

// fill takes the blocks that a node lacks.
func (n *node) fill(free *pool) {
	content, more := n.need()
	for len(n.blocks) < content {
		n.blocks = append(n.blocks, free.take())
	}
	if more && n.more == 0 {
		n.more = free.take()
	}
}
