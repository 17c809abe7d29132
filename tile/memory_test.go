package tile_test

import (
	"math/rand"
	"slices"
	"strconv"
	"sync"
	"testing"

	"scrivener/api"
	"scrivener/tile"
)

// overwrite writes into a list and all its spare room.
func overwrite(l []string) {
	l = l[:cap(l)]
	for i := range l {
		l[i] = "over"
	}
}

func TestListsAreNew(t *testing.T) {
	l := some(37, "leaf")
	for height := 1; height <= 8; height++ {
		x, m := made(t, height, nil)
		for n, leaf := range l {
			x.Add(leaf)
			m.leaves = l[:n+1]
			for level := range 6 {
				for index := range 20 {
					tile, _ := x.Tile(level, index)
					again, _ := x.Tile(level, index)
					was := slices.Clone(again)
					overwrite(tile)
					if !slices.Equal(again, was) {
						t.Fatalf("R2: two lists of Tile(%d, %d) share memory", level, index)
					}
				}
			}
			leaves, _ := x.Leaves(api.Span{Begin: n / 2, End: n + 1})
			again, _ := x.Leaves(api.Span{Begin: n / 2, End: n + 1})
			overwrite(leaves)
			if !slices.Equal(again, l[n/2:n+1]) {
				t.Fatal("R2: two lists of Leaves share memory")
			}
			isTree(t, x, m)
		}
	}
}

// A list that came out stays as it is when the tree goes on.
func TestListsStay(t *testing.T) {
	l := some(64, "leaf")
	for height := 1; height <= 8; height++ {
		x, m := made(t, height, nil)
		var lists, copies [][]string
		for n, leaf := range l {
			x.Add(leaf)
			m.leaves = l[:n+1]
			for level := range 6 {
				for index := range 1 + n>>height {
					if tile, e := x.Tile(level, index); e == api.OK {
						lists, copies = append(lists, tile), append(copies, slices.Clone(tile))
						if cap(tile) > len(tile) {
							tile[:len(tile)+1][len(tile)] = "in the spare room"
						}
					}
				}
			}
		}
		isTree(t, x, m)
		for i := range lists {
			if !slices.Equal(lists[i], copies[i]) {
				t.Fatalf("R2: height %d: a list was written into when the tree went on", height)
			}
		}
	}
}

func TestClone(t *testing.T) {
	l := some(70, "leaf")
	for height := 1; height <= 8; height++ {
		for n := 0; n < 40; n++ {
			one, m := made(t, height, slices.Clip(l[:n]))
			two := one.Clone()
			isTree(t, two, m)
			behind, other := append(m.leaves, l[n:]...), append(m.leaves, some(9, "other")...)
			for _, leaf := range behind[n:] {
				one.Add(leaf)
			}
			isTree(t, two, m)
			three := two.Clone()
			for _, leaf := range other[n:] {
				two.Add(leaf)
			}
			isTree(t, three, m)
			isTree(t, two, model{height, other})
			isTree(t, one, model{height, behind})
		}
	}
}

// grown is a tree, and what it should be.
type grown struct {
	tree *tile.Tree
	model
}

func TestTreesDoNotDisturb(t *testing.T) {
	r := rand.New(rand.NewSource(2))
	for range 40 {
		var trees []grown
		for height := 1; height <= 8; height++ {
			x, m := made(t, height, nil)
			trees = append(trees, grown{x, m})
		}
		for step := range 250 {
			g := &trees[r.Intn(len(trees))]
			switch r.Intn(12) {
			case 0:
				trees = append(trees, grown{g.tree.Clone(), model{g.height, slices.Clone(g.leaves)}})
			case 1:
				g.tree.Add("odd")
			case 2:
				g.tree.Clone().Add(hashOf("of a clone that is dropped"))
			default:
				leaf := hashOf(strconv.Itoa(step))
				g.tree.Add(leaf)
				g.leaves = append(g.leaves, leaf)
			}
		}
		for _, g := range trees {
			isTree(t, g.tree, g.model)
		}
	}
}

func TestAskingChangesNothing(t *testing.T) {
	l := some(40, "leaf")
	for height := 1; height <= 8; height++ {
		x, m := made(t, height, nil)
		for n, leaf := range l {
			x.Add(leaf)
			m.leaves = l[:n+1]
			isTree(t, x, m)
			isTree(t, x, m)
		}
	}
}

func TestCallsAtOnce(t *testing.T) {
	l := some(100, "leaf")
	x, m := made(t, 2, l)
	var all sync.WaitGroup
	for i := range 8 {
		all.Go(func() {
			isTree(t, x, m)
			c := x.Clone()
			leaf := hashOf("leaf of " + strconv.Itoa(i))
			c.Add(leaf)
			isTree(t, c, model{2, append(slices.Clone(l), leaf)})
		})
	}
	all.Wait()
	isTree(t, x, m)
}
