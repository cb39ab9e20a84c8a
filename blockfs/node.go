package blockfs

import (
	"bytes"
	"maps"
	"slices"

	"majordomo/api"
	"majordomo/layout"
)

// node is one of a tree, and where it stands on the disk. Its bytes are never changed in place, so that a tree and its copy may share them.
type node struct {
	kind, mode int
	bytes      []byte           // of a file or a link
	entries    map[string]*node // of a directory
	slot       int              // its place among the disk's nodes: 0 for the root, and for one that has none yet
	blocks     []int
	more       int
	fresh      bool // its blocks don't hold yet what it has
}

func newNode(kind, mode int) *node {
	n := &node{kind: kind, mode: mode}
	if kind == api.KindDir {
		n.entries = map[string]*node{}
	}
	return n
}

// size is how many bytes, or entries, a node has.
func (n *node) size() int {
	if n.kind == api.KindDir {
		return len(n.entries)
	}
	return len(n.bytes)
}

// names is a directory's, rising.
func (n *node) names() []string { return slices.Sorted(maps.Keys(n.entries)) }

// all is a node and what is in it, in an order that the tree alone tells.
func (n *node) all() []*node {
	if n == nil {
		return nil
	}
	l := []*node{n}
	for _, s := range n.names() {
		l = append(l, n.entries[s].all()...)
	}
	return l
}

// cost is how many blocks nodes take.
func cost(l []*node) int {
	sum := 0
	for _, n := range l {
		sum += layout.Cost(n.kind, n.size())
	}
	return sum
}

// at resolves a path.
func (n *node) at(path string) (*node, api.Errno) {
	names, e := layout.Path(path)
	if e != api.OK {
		return nil, e
	}
	return n.follow(names)
}

func (n *node) follow(names []string) (*node, api.Errno) {
	for _, s := range names {
		if n.kind != api.KindDir {
			return nil, api.ErrKind
		}
		next := n.entries[s]
		if next == nil {
			return nil, api.ErrNoEntry
		}
		n = next
	}
	return n, api.OK
}

// clone is a tree that can be edited while the old one stays as it is.
func (n *node) clone() *node {
	c := newNode(n.kind, n.mode)
	c.bytes = n.bytes
	c.slot, c.blocks, c.more = n.slot, slices.Clone(n.blocks), n.more
	for s, x := range n.entries {
		c.entries[s] = x.clone()
	}
	return c
}

// same tells whether two trees are equal, wherever they stand.
func same(a, b *node) bool {
	if a.kind != b.kind || a.mode != b.mode || !bytes.Equal(a.bytes, b.bytes) || len(a.entries) != len(b.entries) {
		return false
	}
	for s, x := range a.entries {
		y := b.entries[s]
		if y == nil || !same(x, y) {
			return false
		}
	}
	return true
}

// fits tells whether a tree may be on a disk.
func fits(lay api.Layout, root *node) api.Errno {
	l := root.all()
	if len(l) > lay.Count {
		return api.ErrNodes
	}
	if cost(l) > lay.Blocks-lay.Data {
		return api.ErrFull
	}
	return api.OK
}
