package layout

import "majordomo/api"

const (
	direct = 6                 // blocks that a node's record tells itself
	others = api.BlockSize / 2 // blocks that its further block tells
)

// fields is the numbers of a node's record, behind the kind: the mode, the size, More, the first blocks (noughts for missing ones).
type fields [firstBlock + direct]int

const firstBlock = 3 // the place of the first block among the fields

// block is the bytes of a further block.
type block [api.BlockSize]byte

// PutNode is a node's bytes, and those of the block that tells its other blocks; TakeNode and TakeMore read them.
func PutNode(x api.Inode) (node, more []byte, e api.Errno) {
	n, ok := content(x.Kind, x.Size)
	if !ok || len(x.Blocks) != n || !soundHead(x, n) || !soundBlocks(x.Blocks) {
		return nil, nil, api.ErrArg
	}
	r := nodeRecord(x)
	if n > direct {
		b := moreBlock(x.Blocks[direct:])
		more = b[:]
	}
	return r[:], more, api.OK
}

func TakeNode(node []byte) (x api.Inode, left int, e api.Errno) {
	if len(node) != recordSize {
		return api.Inode{}, 0, api.ErrCorrupt
	}
	r := record(node)
	x, n, ok := readNode(r)
	// A record that is laid again otherwise has bytes behind its last block, which no node's has.
	if !ok || !soundHead(x, n) || !soundBlocks(x.Blocks) || nodeRecord(x) != r {
		return api.Inode{}, 0, api.ErrCorrupt
	}
	return x, n - len(x.Blocks), api.OK
}

func TakeMore(more []byte, left int) ([]int, api.Errno) {
	if left < 0 || left > others || len(more) != api.BlockSize {
		return nil, api.ErrCorrupt
	}
	b := block(more)
	var l []int
	for i := range left {
		l = append(l, number(b[:], 2*i))
	}
	if !soundBlocks(l) || moreBlock(l) != b {
		return nil, api.ErrCorrupt
	}
	return l, api.OK
}

// soundHead tells whether the mode and More are as they may be in a node whose content takes n blocks.
func soundHead(x api.Inode, n int) bool {
	if x.Mode < 0 || x.Mode > api.MaxMode {
		return false
	}
	if n > direct {
		return soundBlock(x.More)
	}
	return x.More == 0
}

func soundBlocks(l []int) bool {
	for _, b := range l {
		if !soundBlock(b) {
			return false
		}
	}
	return true
}

func soundBlock(b int) bool { return b >= 1 && b < api.MaxBlocks }

// nodeRecord lays what a record tells of a node; only the first six blocks go in.
func nodeRecord(x api.Inode) record {
	f := fields{x.Mode, x.Size, x.More}
	copy(f[firstBlock:], x.Blocks)
	r := record{byte(x.Kind)}
	for i, v := range f {
		putNumber(r[:], 1+2*i, v)
	}
	return r
}

// readNode is the other way: the node with its first blocks, and how many its content takes.
func readNode(r record) (x api.Inode, n int, ok bool) {
	var f fields
	for i := range f {
		f[i] = number(r[:], 1+2*i)
	}
	x = api.Inode{Kind: int(r[0]), Mode: f[0], Size: f[1], More: f[2]}
	n, ok = content(x.Kind, x.Size)
	x.Blocks = append(x.Blocks, f[firstBlock:firstBlock+min(n, direct)]...)
	return x, n, ok
}

// moreBlock lays the blocks behind the sixth.
func moreBlock(l []int) block {
	var b block
	for i, v := range l {
		putNumber(b[:], 2*i, v)
	}
	return b
}

func putNumber(b []byte, at, v int) { b[at], b[at+1] = byte(v>>8), byte(v) }

func number(b []byte, at int) int { return int(b[at])<<8 | int(b[at+1]) }
