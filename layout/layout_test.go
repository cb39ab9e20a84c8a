package layout

import (
	"math"
	"testing"

	"majordomo/api"
)

func wantOf(t *testing.T, blocks int, want api.Layout) {
	t.Helper()
	if l, e := Of(blocks); e != api.OK || l != want {
		t.Errorf("Of(%d): %+v, %d; want %+v", blocks, l, e, want)
	}
}

func wantCost(t *testing.T, kind, size, want int) {
	t.Helper()
	if n := Cost(kind, size); n != want {
		t.Errorf("Cost(%d, %d): %d; want %d", kind, size, n, want)
	}
}

// P3.1: the examples, and each edge at which the bitmap grows by a block.
func TestOf(t *testing.T) {
	for _, c := range []struct{ blocks, bitmap int }{
		{512, 1}, {513, 2}, {1024, 2}, {1025, 3}, {1536, 3}, {1537, 4}, {2048, 4}, {2049, 5},
		{2560, 5}, {2561, 6}, {3072, 6}, {3073, 7}, {3584, 7}, {3585, 8}, {4095, 8}, {4096, 8},
	} {
		wantOf(t, c.blocks, api.Layout{Blocks: c.blocks, Super: 0, Counter: 1, Journal: 2, Bitmap: 201, Nodes: 201 + c.bitmap, Data: 233 + c.bitmap, Count: 64})
	}
}

// P3.1: numbers that no disk with a tree has.
func TestOfRefuses(t *testing.T) {
	for _, blocks := range []int{511, 4097, 0, 1, -1, -512, 512 + 1<<32, math.MinInt, math.MaxInt} {
		if l, e := Of(blocks); e != api.ErrArg || l != (api.Layout{}) {
			t.Errorf("Of(%d): %+v, %d", blocks, l, e)
		}
	}
}

// P3.1, P3.7: on every disk the areas stand side by side, fill it, and are as large as they must be.
func TestAreasAreTheWholeDisk(t *testing.T) {
	for blocks := api.MinBlocks; blocks <= api.MaxBlocks; blocks++ {
		l, e := Of(blocks)
		if e != api.OK {
			t.Fatalf("Of(%d): %d", blocks, e)
		}
		starts := []int{l.Super, l.Counter, l.Journal, l.Bitmap, l.Nodes, l.Data, l.Blocks}
		sizes := []int{1, 1, 199, int(math.Ceil(float64(blocks) / 512)), 32, blocks - l.Data}
		next := 0
		for i, n := range sizes {
			if starts[i] != next || n < 1 {
				t.Fatalf("Of(%d): area %d begins at %d, behind %d, and has %d blocks", blocks, i, starts[i], next, n)
			}
			next += n
		}
		if next != blocks || l.Blocks != blocks || l.Count != 64 {
			t.Fatalf("Of(%d): %+v", blocks, l)
		}
	}
}

// P3.2: the examples and the edges.
func TestCost(t *testing.T) {
	for _, c := range [][3]int{
		{api.KindFile, 0, 0}, {api.KindFile, 1, 1}, {api.KindFile, 64, 1}, {api.KindFile, 65, 2},
		{api.KindFile, 384, 6}, {api.KindFile, 385, 8}, {api.KindFile, 448, 8}, {api.KindFile, 449, 9},
		{api.KindFile, 2368, 38}, {api.KindFile, 2369, 39}, {api.KindFile, 2432, 39},
		{api.KindLink, 0, 0}, {api.KindLink, 1, 1}, {api.KindLink, 64, 1}, {api.KindLink, 65, 2}, {api.KindLink, 120, 2},
		{api.KindDir, 0, 0}, {api.KindDir, 1, 1}, {api.KindDir, 2, 1}, {api.KindDir, 3, 2},
		{api.KindDir, 12, 6}, {api.KindDir, 13, 8}, {api.KindDir, 14, 8}, {api.KindDir, 15, 9}, {api.KindDir, 16, 9},
	} {
		wantCost(t, c[0], c[1], c[2])
	}
}

// P3.2: a kind that is none, or a size that its kind has not, costs nothing.
func TestCostOfNothing(t *testing.T) {
	for _, kind := range []int{api.KindNone, 4, -1, -2, 257, 258, 259, math.MinInt, math.MaxInt} {
		for _, size := range []int{0, 1, 16, 120, 2432} {
			wantCost(t, kind, size, 0)
		}
	}
	for kind, most := range map[int]int{api.KindFile: 2432, api.KindLink: 120, api.KindDir: 16} {
		for _, size := range []int{most + 1, most + 1000, -1, -64, -65, math.MinInt, math.MaxInt} {
			wantCost(t, kind, size, 0)
		}
	}
}

// P3.2: every size, against a count of the blocks one by one.
func TestCostOfEverySize(t *testing.T) {
	for _, c := range []struct{ kind, most, each int }{{api.KindFile, 2432, 64}, {api.KindLink, 120, 64}, {api.KindDir, 16, 2}} {
		for size := 0; size <= c.most; size++ {
			n := 0
			for at := 0; at < size; at += c.each {
				n++
			}
			if n > 6 {
				n++
			}
			wantCost(t, c.kind, size, n)
		}
	}
}
