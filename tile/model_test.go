package tile_test

import (
	"crypto/sha256"
	"math"
	"math/big"
	"slices"
	"strconv"
	"testing"

	"scrivener/api"
	"scrivener/tile"
)

// The model takes the words as they stand: it keeps the leaves alone, works every hash out of them from the top, and tells what is complete by numbers that cannot wrap round.

// some are n hashes, unlike those of another kind.
func some(n int, kind string) []string {
	l := make([]string, n)
	for i := range l {
		l[i] = hashOf(kind + " " + strconv.Itoa(i))
	}
	return l
}

func hashOf(text string) string {
	h := sha256.Sum256([]byte(text))
	return string(h[:])
}

func node(left, right string) string { return hashOf("\x01" + left + right) }

// model is a tree: the height of its tiles, and its leaves.
type model struct {
	height int
	leaves []string
}

// spanHash is the hash of some leaves.
func spanHash(l []string) string {
	switch len(l) {
	case 0:
		return hashOf("")
	case 1:
		return l[0]
	}
	k := 1
	for 2*k < len(l) {
		k *= 2
	}
	return node(spanHash(l[:k]), spanHash(l[k:]))
}

// complete is the span that a subtree is, if it is a complete one.
func (m model) complete(level, index *big.Int) (api.Span, bool) {
	if level.Sign() < 0 || index.Sign() < 0 || level.Cmp(big.NewInt(100)) > 0 {
		return api.Span{}, false
	}
	begin := new(big.Int).Lsh(index, uint(level.Int64()))
	end := new(big.Int).Lsh(new(big.Int).Add(index, big.NewInt(1)), uint(level.Int64()))
	if end.Cmp(big.NewInt(int64(len(m.leaves)))) > 0 {
		return api.Span{}, false
	}
	return api.Span{Begin: int(begin.Int64()), End: int(end.Int64())}, true
}

func (m model) subtree(level, index *big.Int) (string, api.Errno) {
	s, ok := m.complete(level, index)
	if !ok {
		return "", api.ErrTileNone
	}
	return spanHash(m.leaves[s.Begin:s.End]), api.OK
}

func (m model) hash(n api.Node) (string, api.Errno) {
	return m.subtree(big.NewInt(int64(n.Level)), big.NewInt(int64(n.Index)))
}

func (m model) tile(level, index int) ([]string, api.Errno) {
	if level < 0 || index < 0 {
		return nil, api.ErrTileNone
	}
	high := new(big.Int).Mul(big.NewInt(int64(level)), big.NewInt(int64(m.height)))
	first := new(big.Int).Lsh(big.NewInt(int64(index)), uint(m.height))
	var l []string
	for i := range 1 << m.height {
		hash, e := m.subtree(high, new(big.Int).Add(first, big.NewInt(int64(i))))
		if e != api.OK {
			break
		}
		l = append(l, hash)
	}
	if l == nil {
		return nil, api.ErrTileNone
	}
	return l, api.OK
}

func (m model) has(s api.Span) bool {
	return s.Begin >= 0 && s.End >= s.Begin && len(m.leaves) >= s.End
}

func (m model) part(s api.Span) (string, api.Errno) {
	if !m.has(s) {
		return "", api.ErrTileSize
	}
	return spanHash(m.leaves[s.Begin:s.End]), api.OK
}

func (m model) some(s api.Span) ([]string, api.Errno) {
	if !m.has(s) {
		return nil, api.ErrTileSize
	}
	return m.leaves[s.Begin:s.End], api.OK
}

// made is a tree, with its model.
func made(t *testing.T, height int, leaves []string) (*tile.Tree, model) {
	t.Helper()
	x, e := tile.New(height)
	if x == nil || e != api.OK {
		t.Fatalf("T1: New(%d): a tree: %t, %d", height, x != nil, e)
	}
	for i, leaf := range leaves {
		if e := x.Add(leaf); e != api.OK {
			t.Fatalf("T2: Add of leaf %d: %d", i, e)
		}
	}
	return x, model{height, leaves}
}

func isHash(t *testing.T, x *tile.Tree, m model, n api.Node) {
	t.Helper()
	want, wantE := m.hash(n)
	if got, e := x.Hash(n); got != want || e != wantE {
		t.Errorf("T3: of %d leaves, height %d: Hash(%d, %d): %x, %d, want %x, %d", len(m.leaves), m.height, n.Level, n.Index, got, e, want, wantE)
	}
}

func isTile(t *testing.T, x *tile.Tree, m model, level, index int) {
	t.Helper()
	want, wantE := m.tile(level, index)
	if got, e := x.Tile(level, index); !slices.Equal(got, want) || e != wantE {
		t.Errorf("T3: of %d leaves, height %d: Tile(%d, %d): %d hashes, %d, want %d, %d", len(m.leaves), m.height, level, index, len(got), e, len(want), wantE)
	}
}

func isPart(t *testing.T, x *tile.Tree, m model, s api.Span) {
	t.Helper()
	want, wantE := m.part(s)
	if got, e := x.Part(s); got != want || e != wantE {
		t.Errorf("T4: of %d leaves, height %d: Part [%d, %d): %x, %d, want %x, %d", len(m.leaves), m.height, s.Begin, s.End, got, e, want, wantE)
	}
	leaves, wantE := m.some(s)
	if got, e := x.Leaves(s); !slices.Equal(got, leaves) || e != wantE {
		t.Errorf("T4: of %d leaves, height %d: Leaves [%d, %d): %d leaves, %d, want %d", len(m.leaves), m.height, s.Begin, s.End, len(got), e, wantE)
	}
}

func isRoot(t *testing.T, x *tile.Tree, m model, size int) {
	t.Helper()
	want, wantE := m.part(api.Span{Begin: 0, End: size})
	if got, e := x.Root(size); got != want || e != wantE {
		t.Errorf("T4: of %d leaves, height %d: Root(%d): %x, %d, want %x, %d", len(m.leaves), m.height, size, got, e, want, wantE)
	}
}

// isTree holds a tree to all that its model says of places within it and about its edges, but for spans.
func isTree(t *testing.T, x *tile.Tree, m model) {
	t.Helper()
	n := len(m.leaves)
	if x.Size() != n || x.Height() != m.height {
		t.Errorf("T1: Size %d, Height %d, want %d, %d", x.Size(), x.Height(), n, m.height)
	}
	for level, most := -1, 2*n; most > 0; level, most = level+1, most/2 {
		for index := -1; index <= most+1; index++ {
			isHash(t, x, m, api.Node{Level: level, Index: index})
		}
	}
	for level := -1; level <= 8; level++ {
		for index := -1; index <= n>>(m.height*(max(level, 0)+1))+2; index++ {
			isTile(t, x, m, level, index)
		}
	}
	for size := -1; size <= n+1; size++ {
		isRoot(t, x, m, size)
	}
	isPart(t, x, m, api.Span{Begin: n / 3, End: n})
	isPart(t, x, m, api.Span{Begin: n / 3, End: n + 1})
}

// odd are numbers that no place within a tree has: about nought, the ends, and the powers of two.
func odd() []int {
	l := []int{math.MinInt, math.MinInt + 1, -4, -3, -2, -1, math.MaxInt - 1, math.MaxInt}
	for i := 21; i < 63; i++ {
		l = append(l, 1<<i-1, 1<<i, 1<<i+1, -(1 << i))
	}
	return l
}
