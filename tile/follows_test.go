package tile_test

import (
	"math/rand"
	"slices"
	"testing"

	"scrivener/api"
	"scrivener/frontier"
	"scrivener/recursion"
	"scrivener/tile"
	"scrivener/verify"
)

// What follows: T6, and that the tiles tell what layers 3 to 5 do.

// told is all that a tree tells of its first leaves: each subtree's hash, each root, some spans.
type told struct {
	hashes map[api.Node]string
	roots  []string
	parts  map[api.Span]string
	leaves []string
}

// tell asks a tree for what it tells of its first n leaves.
func tell(t *testing.T, x *tile.Tree, n int) told {
	t.Helper()
	all := told{hashes: map[api.Node]string{}, parts: map[api.Span]string{}}
	ok := func(e api.Errno) {
		t.Helper()
		if e != api.OK {
			t.Fatalf("T6: of the first %d of %d leaves: %d", n, x.Size(), e)
		}
	}
	for level := 0; n>>level > 0; level++ {
		for index := range n >> level {
			node := api.Node{Level: level, Index: index}
			hash, e := x.Hash(node)
			ok(e)
			all.hashes[node] = hash
		}
	}
	for size := range n + 1 {
		root, e := x.Root(size)
		ok(e)
		all.roots = append(all.roots, root)
		for _, begin := range []int{size / 2, size / 3, max(size-5, 0)} {
			s := api.Span{Begin: begin, End: size}
			part, e := x.Part(s)
			ok(e)
			all.parts[s] = part
		}
	}
	leaves, e := x.Leaves(api.Span{End: n})
	ok(e)
	all.leaves = leaves
	return all
}

func sameTold(a, b told) bool {
	same := slices.Equal(a.roots, b.roots) && slices.Equal(a.leaves, b.leaves) && len(a.hashes) == len(b.hashes) && len(a.parts) == len(b.parts)
	for n, hash := range a.hashes {
		same = same && b.hashes[n] == hash
	}
	for s, hash := range a.parts {
		same = same && b.parts[s] == hash
	}
	return same
}

func TestToldAgain(t *testing.T) {
	l := some(90, "leaf")
	for height := 1; height <= 8; height++ {
		x, _ := made(t, height, nil)
		var first []told
		for i, leaf := range l {
			if i%6 == 0 {
				first = append(first, tell(t, x, i))
			}
			x.Add(leaf)
		}
		for i, before := range first {
			if !sameTold(tell(t, x, 6*i), before) {
				t.Errorf("T6: height %d: of %d leaves another thing is told, now that there are %d", height, 6*i, len(l))
			}
		}
	}
}

// A tile goes on to have what it had, in front; a whole one has the same for good.
func TestTilesGrow(t *testing.T) {
	l := some(70, "leaf")
	for height := 1; height <= 8; height++ {
		x, _ := made(t, height, nil)
		had := map[[2]int][]string{}
		for _, leaf := range l {
			x.Add(leaf)
			for level := range 7 {
				for index := range 36 {
					now, _ := x.Tile(level, index)
					before := had[[2]int{level, index}]
					if len(now) < len(before) || !slices.Equal(now[:len(before)], before) || len(now) > 1<<height {
						t.Fatalf("T6: height %d: Tile(%d, %d) has not what it had", height, level, index)
					}
					had[[2]int{level, index}] = now
				}
			}
		}
	}
}

func TestHeightChangesTilesAlone(t *testing.T) {
	l := some(130, "leaf")
	for _, n := range []int{0, 1, 2, 3, 7, 8, 31, 64, 100, 130} {
		x, _ := made(t, 1, l[:n])
		first := tell(t, x, n)
		for height := 2; height <= 8; height++ {
			y, _ := made(t, height, l[:n])
			if !sameTold(tell(t, y, n), first) || y.Size() != x.Size() {
				t.Errorf("T6: of %d leaves height %d tells another thing than height 1", n, height)
			}
		}
	}
}

func TestToldByRecursion(t *testing.T) {
	r := rand.New(rand.NewSource(1))
	l := some(api.MaxList, "leaf")
	x, _ := made(t, 3, append(slices.Clone(l), some(100, "behind")...))
	for _, n := range []int{0, 1, 2, 3, 4, 5, 100, 255, 256, 257, 2048, 3000, 4095, 4096} {
		want, _ := recursion.Root(l[:n])
		if root, e := x.Root(n); root != want || e != api.OK {
			t.Errorf("P1: Root(%d): %d", n, e)
		}
		for range 5 {
			s := api.Span{Begin: r.Intn(n + 1), End: n}
			want, _ := recursion.Part(l, s)
			if part, e := x.Part(s); part != want || e != api.OK {
				t.Errorf("P1: Part [%d, %d): %d", s.Begin, s.End, e)
			}
		}
	}
}

// The right edge of layer 5 is made of hashes that the tiles have.
func TestEdgeIsInTiles(t *testing.T) {
	l := some(300, "leaf")
	edge := frontier.New()
	x, _ := made(t, 4, nil)
	for i, leaf := range l {
		edge.Add(leaf)
		x.Add(leaf)
		n := i + 1
		if root, e := x.Root(n); root != edge.Root() || e != api.OK {
			t.Errorf("P1: Root(%d): %d", n, e)
		}
		var nodes []string
		for level := 9; level >= 0; level-- {
			if n>>level%2 == 1 {
				hash, _ := x.Hash(api.Node{Level: level, Index: n>>level - 1})
				nodes = append(nodes, hash)
			}
		}
		if !slices.Equal(nodes, edge.Nodes()) {
			t.Errorf("P1: of %d leaves the edge has other nodes", n)
		}
	}
}

// Spans of a past tree, as a path of layer 3 tells them, lead to the root that is told of it.
func TestPathsLeadToPastRoots(t *testing.T) {
	l := some(64, "leaf")
	x, _ := made(t, 2, l)
	for size := 1; size <= 40; size++ {
		root, _ := x.Root(size)
		for index := range size {
			path, _ := recursion.Path(l[:size], index)
			if e := verify.Inclusion(size, index, l[index], path, root); e != api.OK {
				t.Errorf("P2: the path of %d of %d: %d", index, size, e)
			}
		}
	}
}
