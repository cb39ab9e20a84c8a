package layout

import (
	"bytes"
	"math"
	"slices"
	"testing"

	"majordomo/api"
)

// file is a file of so many blocks, the last one full, whose blocks are first, first+1, ..
func file(n, first int) api.Inode {
	x := api.Inode{Kind: api.KindFile, Mode: 420, Size: 64 * n}
	for i := range n {
		x.Blocks = append(x.Blocks, first+i)
	}
	if n > 6 {
		x.More = 4000
	}
	return x
}

// laid is the bytes of numbers, two for each, with noughts behind them up to size.
func laid(size int, l ...int) []byte {
	b := []byte{}
	for _, v := range l {
		b = append(b, byte(v/256), byte(v%256))
	}
	return append(b, make([]byte, size-len(b))...)
}

// laidNode is a node's 32 bytes as the document says them.
func laidNode(kind, mode, size, more int, blocks ...int) []byte {
	return append([]byte{byte(kind)}, laid(31, append([]int{mode, size, more}, blocks...)...)...)
}

func sameNode(x, y api.Inode) bool {
	return x.Kind == y.Kind && x.Mode == y.Mode && x.Size == y.Size && x.More == y.More && slices.Equal(x.Blocks, y.Blocks)
}

func wantPutNode(t *testing.T, x api.Inode, node, more []byte) {
	t.Helper()
	n, m, e := PutNode(x)
	if e != api.OK || !bytes.Equal(n, node) || !bytes.Equal(m, more) {
		t.Errorf("PutNode(%+v): %v, %v, %d; want %v, %v", x, n, m, e, node, more)
	}
}

func wantNoNode(t *testing.T, x api.Inode) {
	t.Helper()
	if n, m, e := PutNode(x); n != nil || m != nil || e != api.ErrArg {
		t.Errorf("PutNode(%+v): %v, %v, %d; want ErrArg", x, n, m, e)
	}
}

func wantTakeNode(t *testing.T, node []byte, want api.Inode, left int) {
	t.Helper()
	if x, n, e := TakeNode(node); e != api.OK || n != left || !sameNode(x, want) {
		t.Errorf("TakeNode(%v): %+v, %d, %d; want %+v, %d", node, x, n, e, want, left)
	}
}

func wantCorruptNode(t *testing.T, why string, node []byte) {
	t.Helper()
	if x, n, e := TakeNode(node); e != api.ErrCorrupt || n != 0 || !sameNode(x, api.Inode{}) || x.Blocks != nil {
		t.Errorf("%s: TakeNode(%v): %+v, %d, %d; want ErrCorrupt", why, node, x, n, e)
	}
}

func wantTakeMore(t *testing.T, more []byte, want []int) {
	t.Helper()
	if l, e := TakeMore(more, len(want)); e != api.OK || !slices.Equal(l, want) {
		t.Errorf("TakeMore(%v, %d): %v, %d; want %v", more, len(want), l, e, want)
	}
}

func wantCorruptMore(t *testing.T, why string, more []byte, left int) {
	t.Helper()
	if l, e := TakeMore(more, left); e != api.ErrCorrupt || l != nil {
		t.Errorf("%s: TakeMore(%v, %d): %v, %d; want ErrCorrupt", why, more, left, l, e)
	}
}

// P3.3, P3.4: nodes whose bytes are written out.
func TestNodeBytes(t *testing.T) {
	for _, c := range []struct {
		x    api.Inode
		node []byte
	}{
		{api.Inode{Kind: 1}, laidNode(1, 0, 0, 0)},
		{api.Inode{Kind: 2, Mode: 493}, laidNode(2, 493, 0, 0)},
		{api.Inode{Kind: 3, Size: 120, Blocks: []int{4095, 1}}, laidNode(3, 0, 120, 0, 4095, 1)},
		{api.Inode{Kind: 2, Mode: 4095, Size: 3, Blocks: []int{300, 256}}, laidNode(2, 4095, 3, 0, 300, 256)},
		{api.Inode{Kind: 1, Mode: 420, Size: 321, Blocks: []int{1, 2, 3, 4, 5, 6}}, laidNode(1, 420, 321, 0, 1, 2, 3, 4, 5, 6)},
		{api.Inode{Kind: 1, Mode: 420, Size: 384, Blocks: []int{9, 9, 9, 9, 9, 9}}, laidNode(1, 420, 384, 0, 9, 9, 9, 9, 9, 9)},
	} {
		wantPutNode(t, c.x, c.node, nil)
		wantTakeNode(t, c.node, c.x, 0)
	}
	wantPutNode(t, api.Inode{Kind: 1, Mode: 0o1234, Size: 0x101, Blocks: []int{0x102, 0x203, 0x304, 0x405, 0x506}},
		[]byte{1, 0x02, 0x9c, 1, 1, 0, 0, 1, 2, 2, 3, 3, 4, 4, 5, 5, 6, 0, 0, 0, 0, 0, 0, 0, 0, 0, 0, 0, 0, 0, 0, 0}, nil)
}

// P3.3, P3.4: the blocks behind the sixth stand in a block of their own.
func TestNodeBytesWithMore(t *testing.T) {
	x := api.Inode{Kind: 1, Mode: 1, Size: 385, Blocks: []int{11, 12, 13, 14, 15, 16, 4095}, More: 1}
	node, more := laidNode(1, 1, 385, 1, 11, 12, 13, 14, 15, 16), laid(64, 4095)
	wantPutNode(t, x, node, more)
	x.Blocks = x.Blocks[:6]
	wantTakeNode(t, node, x, 1)
	wantTakeMore(t, more, []int{4095})

	x = api.Inode{Kind: 2, Mode: 2, Size: 16, Blocks: []int{1, 2, 3, 4, 5, 6, 700, 8}, More: 4095}
	node, more = laidNode(2, 2, 16, 4095, 1, 2, 3, 4, 5, 6), laid(64, 700, 8)
	wantPutNode(t, x, node, more)
	x.Blocks = x.Blocks[:6]
	wantTakeNode(t, node, x, 2)
	wantTakeMore(t, more, []int{700, 8})
}

// P3.3, P3.4: the greatest file fills the further block to its last byte.
func TestGreatestNode(t *testing.T) {
	x := file(38, 4058)
	node, more := laidNode(1, 420, 2432, 4000, x.Blocks[:6]...), laid(64, x.Blocks[6:]...)
	wantPutNode(t, x, node, more)
	wantTakeMore(t, more, x.Blocks[6:])
	x.Blocks = x.Blocks[:6]
	wantTakeNode(t, node, x, 32)
}

// P3.3: each thing that makes a node refused, alone.
func TestPutNodeRefuses(t *testing.T) {
	for _, kind := range []int{api.KindNone, 4, -1, -255, 257, 259, math.MinInt, math.MaxInt} {
		wantNoNode(t, api.Inode{Kind: kind})
	}
	for _, mode := range []int{-1, 4096, 65536, 65536 + 420, -65536, math.MinInt, math.MaxInt} {
		wantNoNode(t, api.Inode{Kind: api.KindFile, Mode: mode})
	}
	for _, x := range []api.Inode{
		{Kind: api.KindFile, Size: -1}, {Kind: api.KindFile, Size: -64}, {Kind: api.KindFile, Size: math.MinInt}, {Kind: api.KindFile, Size: 65536},
		{Kind: api.KindLink, Size: 121, Blocks: []int{1, 2}}, {Kind: api.KindLink, Size: -1},
		{Kind: api.KindDir, Size: 17, Blocks: []int{1, 2, 3, 4, 5, 6, 7, 8, 9}, More: 10}, {Kind: api.KindDir, Size: -1},
	} {
		wantNoNode(t, x)
	}
	big := file(38, 1)
	big.Size, big.Blocks = 2433, append(big.Blocks, 50)
	wantNoNode(t, big)
	big.Blocks = big.Blocks[:38]
	wantNoNode(t, big)
}

// P3.3: as many blocks as the size asks for, no more and no fewer.
func TestPutNodeRefusesNumberOfBlocks(t *testing.T) {
	for _, n := range []int{0, 1, 2, 5, 6, 7, 8, 37, 38} {
		x := file(n, 100)
		if _, _, e := PutNode(x); e != api.OK {
			t.Errorf("%d blocks: %d", n, e)
		}
		x.Blocks = append(x.Blocks, 99)
		wantNoNode(t, x)
		x.More = 4000
		wantNoNode(t, x)
		if n > 0 {
			x = file(n, 100)
			x.Blocks = x.Blocks[:n-1]
			wantNoNode(t, x)
			x.More = 0
			wantNoNode(t, x)
		}
	}
	wantNoNode(t, api.Inode{Kind: api.KindFile, Blocks: make([]int, 100000)})
}

// P3.3: each block is from 1 to 4095, wherever it stands.
func TestPutNodeRefusesBlocks(t *testing.T) {
	for _, n := range []int{1, 6, 7, 38} {
		for i := range n {
			for _, bad := range []int{0, -1, 4096, 65536, 65537, 65536 + 4095, math.MinInt, math.MaxInt} {
				x := file(n, 100)
				x.Blocks[i] = bad
				wantNoNode(t, x)
			}
			for _, good := range []int{1, 4095} {
				x := file(n, 100)
				x.Blocks[i] = good
				if _, _, e := PutNode(x); e != api.OK {
					t.Errorf("block %d of %d is %d: %d", i, n, good, e)
				}
			}
		}
	}
}

// P3.3: More is a block with more than six blocks, and 0 with six or fewer.
func TestPutNodeRefusesMore(t *testing.T) {
	for _, n := range []int{7, 8, 38} {
		for _, bad := range []int{0, -1, 4096, 65536, 65537, math.MinInt, math.MaxInt} {
			x := file(n, 100)
			x.More = bad
			wantNoNode(t, x)
		}
	}
	for _, n := range []int{0, 1, 5, 6} {
		for _, bad := range []int{1, 4095, -1, 4096, 65536, math.MinInt, math.MaxInt} {
			x := file(n, 100)
			x.More = bad
			wantNoNode(t, x)
		}
	}
}

// P3.4: each thing that makes 32 bytes refused, alone.
func TestTakeNodeRefuses(t *testing.T) {
	good := laidNode(1, 420, 129, 0, 7, 8, 9)
	wantTakeNode(t, good, api.Inode{Kind: 1, Mode: 420, Size: 129, Blocks: []int{7, 8, 9}}, 0)
	for _, n := range []int{0, 1, 19, 31} {
		wantCorruptNode(t, "too few bytes", good[:n])
	}
	wantCorruptNode(t, "no bytes", nil)
	wantCorruptNode(t, "a byte too many", append(slices.Clone(good), 0))
	wantCorruptNode(t, "two nodes", append(slices.Clone(good), good...))
	for _, c := range []struct {
		why  string
		node []byte
	}{
		{"noughts", make([]byte, 32)},
		{"kind 0", laidNode(0, 420, 0, 0)},
		{"kind 4", laidNode(4, 420, 0, 0)},
		{"kind 255", laidNode(255, 420, 0, 0)},
		{"mode 4096", laidNode(1, 4096, 129, 0, 7, 8, 9)},
		{"mode 65535", laidNode(1, 65535, 129, 0, 7, 8, 9)},
		{"file too long", laidNode(1, 420, 2433, 1, 2, 3, 4, 5, 6, 7)},
		{"link too long", laidNode(3, 0, 121, 0, 7, 8)},
		{"too many entries", laidNode(2, 420, 17, 1, 2, 3, 4, 5, 6, 7)},
		{"size 65535", laidNode(1, 420, 65535, 1, 2, 3, 4, 5, 6, 7)},
		{"More without need", laidNode(1, 420, 129, 10, 7, 8, 9)},
		{"More with six", laidNode(1, 420, 384, 10, 7, 8, 9, 10, 11, 12)},
		{"no More with seven", laidNode(1, 420, 385, 0, 7, 8, 9, 10, 11, 12)},
		{"More 4096", laidNode(1, 420, 385, 4096, 7, 8, 9, 10, 11, 12)},
		{"More 65535", laidNode(1, 420, 385, 65535, 7, 8, 9, 10, 11, 12)},
		{"a block too few", laidNode(1, 420, 129, 0, 7, 8)},
		{"a block too many", laidNode(1, 420, 129, 0, 7, 8, 9, 10)},
		{"a block with no size", laidNode(1, 420, 0, 0, 7)},
		{"a sixth block with no need", laidNode(1, 420, 129, 0, 7, 8, 9, 0, 0, 12)},
	} {
		wantCorruptNode(t, c.why, c.node)
	}
}

// P3.4: each of the first blocks is from 1 to 4095.
func TestTakeNodeRefusesBlocks(t *testing.T) {
	for _, n := range []int{1, 2, 6, 7, 38} {
		for i := range min(n, 6) {
			for _, bad := range []int{0, 4096, 32768, 65535} {
				x := file(n, 100)
				x.Blocks[i] = bad
				wantCorruptNode(t, "a bad block", laidNode(1, x.Mode, x.Size, x.More, x.Blocks[:min(n, 6)]...))
			}
		}
	}
}

// P3.4: behind the numbers stand noughts.
func TestTakeNodeRefusesPadding(t *testing.T) {
	for i := 19; i < 32; i++ {
		for _, v := range []byte{1, 128, 255} {
			for _, n := range []int{0, 3, 6, 38} {
				b, _, _ := PutNode(file(n, 100))
				b[i] = v
				wantCorruptNode(t, "padding", b)
			}
		}
	}
}

// P3.4: edges of the bytes that are taken.
func TestTakeNodeEdges(t *testing.T) {
	wantTakeNode(t, laidNode(1, 4095, 1, 0, 4095), api.Inode{Kind: 1, Mode: 4095, Size: 1, Blocks: []int{4095}}, 0)
	wantTakeNode(t, laidNode(3, 4095, 1, 0, 1), api.Inode{Kind: 3, Mode: 4095, Size: 1, Blocks: []int{1}}, 0)
	six := []int{7, 8, 9, 10, 11, 12}
	for size, left := range map[int]int{384: 0, 385: 1, 448: 1, 449: 2, 2368: 31, 2369: 32, 2432: 32} {
		x := api.Inode{Kind: 1, Size: size, Blocks: six}
		if left > 0 {
			x.More = 1
		}
		wantTakeNode(t, laidNode(1, 0, size, x.More, six...), x, left)
	}
	for size, left := range map[int]int{11: 0, 12: 0, 13: 1, 14: 1, 15: 2, 16: 2} {
		x := api.Inode{Kind: 2, Size: size, Blocks: six}
		if left > 0 {
			x.More = 4095
		}
		wantTakeNode(t, laidNode(2, 0, size, x.More, six...), x, left)
	}
}

// P3.4: the further block, for every number of blocks in it.
func TestTakeMore(t *testing.T) {
	l := []int{}
	for i := range 32 {
		wantTakeMore(t, laid(64, l...), l)
		if i%2 == 0 {
			l = append(l, 1+i)
		} else {
			l = append(l, 4095-i/2)
		}
	}
	wantTakeMore(t, laid(64, l...), l)
}

// P3.4: each thing that makes a further block refused, alone.
func TestTakeMoreRefuses(t *testing.T) {
	full := file(32, 4064).Blocks
	for _, left := range []int{-1, 33, 64, math.MinInt, math.MaxInt} {
		wantCorruptMore(t, "left", laid(64, full...), left)
		wantCorruptMore(t, "left", make([]byte, 64), left)
	}
	for left := range 33 {
		good := laid(64, full[:left]...)
		wantCorruptMore(t, "no bytes", nil, left)
		wantCorruptMore(t, "a byte too few", good[:63], left)
		wantCorruptMore(t, "a byte too many", append(slices.Clone(good), 0), left)
		for i := range left {
			for _, bad := range []int{0, 4096, 65535} {
				l := slices.Clone(full[:left])
				l[i] = bad
				wantCorruptMore(t, "a bad block", laid(64, l...), left)
			}
		}
		for i := 2 * left; i < 64; i++ {
			b := slices.Clone(good)
			b[i] = 1
			wantCorruptMore(t, "padding", b, left)
		}
	}
	wantCorruptMore(t, "twice the bytes", laid(128, full...), 32)
	wantCorruptMore(t, "33 blocks", laid(66, append(slices.Clone(full), 5)...), 33)
}

// whole reads a node and its further block.
func whole(t *testing.T, node, more []byte) api.Inode {
	t.Helper()
	x, left, e := TakeNode(node)
	if e != api.OK {
		t.Fatalf("TakeNode(%v): %d", node, e)
	}
	if left > 0 {
		l, e := TakeMore(more, left)
		if e != api.OK {
			t.Fatalf("TakeMore(%v, %d): %d", more, left, e)
		}
		x.Blocks = append(x.Blocks, l...)
	}
	return x
}

// P3.7: a node of every kind and size is read back as it was, and costs as many blocks as it tells.
func TestEveryNodeComesBack(t *testing.T) {
	for kind, most := range map[int]int{api.KindFile: 2432, api.KindLink: 120, api.KindDir: 16} {
		for size := 0; size <= most; size++ {
			x := api.Inode{Kind: kind, Mode: (size * 37) % 4096, Size: size}
			cost := Cost(kind, size)
			if cost > 6 {
				cost--
				x.More = 1 + size%4095
			}
			for i := range cost {
				x.Blocks = append(x.Blocks, 1+(size*41+i*97)%4095)
			}
			node, more, e := PutNode(x)
			if e != api.OK || len(node) != 32 || (len(more) == 64) != (cost > 6) || len(more)%64 > 0 {
				t.Fatalf("PutNode(%+v): %v, %v, %d", x, node, more, e)
			}
			if y := whole(t, node, more); !sameNode(x, y) {
				t.Errorf("%+v came back as %+v", x, y)
			}
		}
	}
}

// P3.4, P3.7: of all bytes that are one byte away from a node's, those that are taken are encoded so again, and only those that no node has are refused.
func TestTakenBytesAreEncodedAgain(t *testing.T) {
	taken := 0
	for _, x := range []api.Inode{file(0, 1), file(1, 1), file(5, 255), file(6, 250), file(7, 100), file(38, 4000), {Kind: 2, Mode: 493, Size: 13, Blocks: []int{1, 2, 3, 4, 5, 6, 7}, More: 9}, {Kind: 3, Size: 65, Blocks: []int{500, 600}}} {
		good, _, e := PutNode(x)
		if e != api.OK {
			t.Fatal(x, e)
		}
		for at := range good {
			for v := range 256 {
				b := slices.Clone(good)
				b[at] = byte(v)
				y, left, e := TakeNode(b)
				if (e == api.OK) != lawful(b) {
					t.Fatalf("TakeNode(%v): %d", b, e)
				}
				if e != api.OK {
					continue
				}
				taken++
				for range left {
					y.Blocks = append(y.Blocks, 4095)
				}
				if again, _, e := PutNode(y); e != api.OK || !bytes.Equal(again, b) {
					t.Fatalf("%v was taken, and is encoded as %v, %d", b, again, e)
				}
			}
		}
	}
	if taken == 0 {
		t.Error("nothing was taken")
	}
}

// lawful tells, step by step along the bytes, whether they are a node's.
func lawful(b []byte) bool {
	two := func(i int) int { return int(b[i])*256 + int(b[i+1]) }
	most := []int{-1, 2432, 16, 120}
	if b[0] > 3 || two(1) > 4095 || two(3) > most[b[0]] {
		return false
	}
	need := (two(3) + 63) / 64
	if b[0] == 2 {
		need = (two(3) + 1) / 2
	}
	in := func(v int) bool { return 1 <= v && v <= 4095 }
	if need > 6 != in(two(5)) || need <= 6 && two(5) != 0 {
		return false
	}
	for i := range 6 {
		v := two(7 + 2*i)
		if i < need && !in(v) || i >= need && v != 0 {
			return false
		}
	}
	return bytes.Equal(b[19:], make([]byte, 13))
}

// R7: arguments stay as they are, their spare room too, and what is answered shares nothing with them or with itself.
func TestNodesShareNothing(t *testing.T) {
	room := append(file(38, 100).Blocks, 77, 78)
	x := file(38, 100)
	x.Blocks = room[:38]
	node, more, _ := PutNode(x)
	n, m := slices.Clone(node), slices.Clone(more)
	if !slices.Equal(room, append(file(38, 100).Blocks, 77, 78)) {
		t.Errorf("PutNode changed %v", room)
	}
	for i := range room {
		room[i] = 1
	}
	_ = append(node, 9, 9)
	if !bytes.Equal(node, n) || !bytes.Equal(more, m) {
		t.Error("PutNode's bytes hang on its argument or on each other")
	}
	y, left, _ := TakeNode(node)
	l, _ := TakeMore(more, left)
	if !bytes.Equal(node, n) || !bytes.Equal(more, m) {
		t.Error("Take changed its argument")
	}
	clear(node)
	clear(more)
	if !slices.Equal(y.Blocks, file(6, 100).Blocks) || !slices.Equal(l, file(32, 106).Blocks) {
		t.Error("what was taken hangs on the bytes")
	}
}
