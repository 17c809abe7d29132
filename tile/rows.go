package tile

import (
	"math/bits"

	"scrivener/api"
)

// Each complete subtree has its hash in one row: that of its level, with as many neighbours as a tile has. The rows whose level is the tiles' height times a number are the tiles; those between are kept as well, so that no complete subtree is worked out twice.

// place is that of a row: the level of its subtrees, and how many rows of that level stand left of it.
type place struct{ level, index int }

// placeOf is the row in which a subtree's hash stands, and where in it.
func (t *Tree) placeOf(n api.Node) (place, int) {
	return place{n.Level, n.Index >> t.height}, n.Index & (1<<t.height - 1)
}

// hash is that of a complete subtree.
func (t *Tree) hash(n api.Node) string {
	p, i := t.placeOf(n)
	return t.rows[p][i]
}

// tile is a tile's row, which is not to be handed out; of no row it is empty.
func (t *Tree) tile(level, index int) []string {
	// Of a level that no subtree has, the product could wrap round to one that some have.
	if level < 0 || level >= bits.Len(uint(t.size)) {
		return nil
	}
	return t.rows[place{level * t.height, index}]
}

// grow takes a leaf, and works out the subtrees that are complete with it.
func (t *Tree) grow(leaf string) {
	t.size++
	t.keep(0, leaf)
	hash := leaf
	for level := range bits.TrailingZeros(uint(t.size)) {
		left := t.hash(api.Node{Level: level, Index: t.size>>level - 2})
		hash = node(left, hash)
		t.keep(level+1, hash)
	}
}

// keep lays down the hash of the last complete subtree of a level.
func (t *Tree) keep(level int, hash string) {
	p, _ := t.placeOf(api.Node{Level: level, Index: t.size>>level - 1})
	t.rows[p] = append(t.rows[p], hash)
}

func (t *Tree) isComplete(n api.Node) bool {
	// Divided, not multiplied: nothing wraps round.
	return n.Level >= 0 && n.Index >= 0 && n.Index < t.Size()>>n.Level
}

// copied is a list in memory of its own.
func copied(l []string) []string {
	c := make([]string, len(l))
	copy(c, l)
	return c
}
