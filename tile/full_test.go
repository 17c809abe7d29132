package tile_test

import (
	"encoding/binary"
	"slices"
	"strconv"
	"sync"
	"testing"

	"scrivener/api"
	"scrivener/tile"
)

// all has the hashes of each level of a tree of 1048576 leaves, made by pairs from below.
var all = sync.OnceValue(func() [][]string {
	leaves := make([]string, api.MaxLeaves)
	for i := range leaves {
		var b [32]byte
		binary.BigEndian.PutUint64(b[7:], uint64(i)*0x9e3779b97f4a7c15)
		leaves[i] = string(b[:])
	}
	levels := [][]string{leaves}
	for len(leaves) > 1 {
		above := make([]string, len(leaves)/2)
		for i := range above {
			above[i] = node(leaves[2*i], leaves[2*i+1])
		}
		levels, leaves = append(levels, above), above
	}
	return levels
})

var someSizes = []int{0, 1, 524287, 524288, 524289, 1048575, 1048576}

// roots are those of some sizes, made from the top.
var roots = sync.OnceValue(func() []string {
	var l []string
	for _, size := range someSizes {
		l = append(l, spanHash(all()[0][:size]))
	}
	return l
})

func full(t *testing.T, height int) *tile.Tree {
	t.Helper()
	x, e := tile.New(height)
	if e != api.OK {
		t.Fatalf("T1: New(%d): %d", height, e)
	}
	for i, leaf := range all()[0] {
		if e := x.Add(leaf); e != api.OK {
			t.Fatalf("T2: Add of leaf %d: %d", i, e)
		}
	}
	return x
}

func TestFull(t *testing.T) {
	heights := []int{1, 3, 8}
	if testing.Short() {
		heights = []int{8}
	}
	roots()
	for _, height := range heights {
		t.Run("height "+strconv.Itoa(height), func(t *testing.T) {
			t.Parallel()
			refusesMore(t, full(t, height), height)
		})
	}
}

func refusesMore(t *testing.T, x *tile.Tree, height int) {
	t.Helper()
	c := x.Clone()
	for _, tree := range []*tile.Tree{x, c} {
		for range 2 {
			if e := tree.Add(hashOf("one more")); e != api.ErrTileFull {
				t.Errorf("T2: Add to 1048576 leaves: %d", e)
			}
			if e := tree.Add("odd"); e != api.ErrTileHash {
				t.Errorf("T2: Add of no hash to 1048576 leaves: %d", e)
			}
		}
	}
	fullIsRight(t, x, height)
	fullIsRight(t, c, height)
}

func fullIsRight(t *testing.T, x *tile.Tree, height int) {
	t.Helper()
	levels := all()
	if x.Size() != api.MaxLeaves || x.Height() != height {
		t.Fatalf("T1: Size %d, Height %d", x.Size(), x.Height())
	}
	for level, hashes := range levels {
		fullLevelIsRight(t, x, level, hashes)
		if level%height == 0 {
			fullTilesAreRight(t, x, level/height, hashes)
		}
	}
	if _, e := x.Hash(api.Node{Level: 21}); e != api.ErrTileNone {
		t.Errorf("T3: Hash above the root: %d", e)
	}
	if _, e := x.Tile(20/height+1, 0); e != api.ErrTileNone {
		t.Errorf("T3: Tile above the root: %d", e)
	}
	for i, size := range someSizes {
		s := api.Span{Begin: size, End: api.MaxLeaves}
		if l, e := x.Leaves(s); !slices.Equal(l, levels[0][size:]) || e != api.OK {
			t.Errorf("T4: Leaves from %d on: %d leaves, %d", size, len(l), e)
		}
		if root, e := x.Root(size); root != roots()[i] || e != api.OK {
			t.Errorf("T4: Root(%d): %x, %d", size, root, e)
		}
	}
	if _, e := x.Root(api.MaxLeaves + 1); e != api.ErrTileSize {
		t.Errorf("T4: Root(1048577): %d", e)
	}
}

func fullLevelIsRight(t *testing.T, x *tile.Tree, level int, hashes []string) {
	t.Helper()
	for i, want := range hashes {
		if hash, e := x.Hash(api.Node{Level: level, Index: i}); hash != want || e != api.OK {
			t.Fatalf("T3: Hash(%d, %d): %x, %d", level, i, hash, e)
		}
	}
	if hash, e := x.Hash(api.Node{Level: level, Index: len(hashes)}); hash != "" || e != api.ErrTileNone {
		t.Errorf("T3: Hash(%d, %d): %x, %d", level, len(hashes), hash, e)
	}
}

func fullTilesAreRight(t *testing.T, x *tile.Tree, level int, hashes []string) {
	t.Helper()
	index := 0
	for want := range slices.Chunk(hashes, 1<<x.Height()) {
		if l, e := x.Tile(level, index); !slices.Equal(l, want) || e != api.OK {
			t.Fatalf("T3: Tile(%d, %d): %d hashes, %d", level, index, len(l), e)
		}
		index++
	}
	if l, e := x.Tile(level, index); len(l) != 0 || e != api.ErrTileNone {
		t.Errorf("T3: Tile(%d, %d): %d hashes, %d", level, index, len(l), e)
	}
}
