package single_test

import (
	"crypto/sha256"
	"math"
	"slices"
	"strconv"
	"testing"

	"scrivener/api"
	"scrivener/single"
	"scrivener/tile"
)

// The model takes the words as they stand: PATH and PROOF go down by a recursion, over leaves that stand in a list.

func hashOf(text string) string {
	h := sha256.Sum256([]byte(text))
	return string(h[:])
}

func node(left, right string) string { return hashOf("\x01" + left + right) }

// some are n leaves, unlike those of another kind.
func some(n int, kind string) []string {
	l := make([]string, n)
	for i := range l {
		l[i] = hashOf(kind + " " + strconv.Itoa(i))
	}
	return l
}

// half is k(n), the greatest power of two below n.
func half(n int) int {
	k := 1
	for 2*k < n {
		k *= 2
	}
	return k
}

// model has the leaves of a tree, and above them, level by level, the nodes of neighbours, so that a great tree's spans are told soon.
type model struct{ levels [][]string }

func modelOf(leaves []string) model {
	levels := [][]string{leaves}
	for len(leaves) > 1 {
		above := make([]string, len(leaves)/2)
		for i := range above {
			above[i] = node(leaves[2*i], leaves[2*i+1])
		}
		levels, leaves = append(levels, above), above
	}
	return model{levels}
}

func (m model) size() int { return len(m.levels[0]) }

// hash is H[b, e).
func (m model) hash(b, e int) string {
	n := e - b
	for level, row := range m.levels {
		if n == 1<<level && b%n == 0 {
			return row[b/n]
		}
	}
	k := half(n)
	return node(m.hash(b, b+k), m.hash(b+k, e))
}

func (m model) path(i, b, e int) []string {
	n := e - b
	if n == 1 {
		return nil
	}
	k := half(n)
	if i < b+k {
		return append(m.path(i, b, b+k), m.hash(b+k, e))
	}
	return append(m.path(i, b+k, e), m.hash(b, b+k))
}

func (m model) proof(first, b, e int, whole bool) []string {
	n := e - b
	if first == n {
		if whole {
			return nil
		}
		return []string{m.hash(b, e)}
	}
	k := half(n)
	if first <= k {
		return append(m.proof(first, b, b+k, whole), m.hash(b+k, e))
	}
	return append(m.proof(first-k, b+k, e, false), m.hash(b, b+k))
}

func (m model) inclusion(size, index int) ([]string, api.Errno) {
	if size < 0 || size > m.size() {
		return nil, api.ErrSingleSize
	}
	if index < 0 || index > size-1 {
		return nil, api.ErrSingleIndex
	}
	return m.path(index, 0, size), api.OK
}

func (m model) consistency(first, second int) ([]string, api.Errno) {
	if second < 0 || second > m.size() || first < 1 || first > second {
		return nil, api.ErrSingleSize
	}
	return m.proof(first, 0, second, true), api.OK
}

// grown is a tree of tiles with some leaves.
func grown(t *testing.T, height int, leaves []string) *tile.Tree {
	t.Helper()
	x, e := tile.New(height)
	if x == nil || e != api.OK {
		t.Fatalf("layer 7: New(%d): %d", height, e)
	}
	adds(t, x, leaves)
	return x
}

func adds(t *testing.T, x *tile.Tree, leaves []string) {
	t.Helper()
	for i, leaf := range leaves {
		if e := x.Add(leaf); e != api.OK {
			t.Fatalf("layer 7: Add of leaf %d: %d", i, e)
		}
	}
}

func isInclusion(t *testing.T, x *tile.Tree, m model, size, index int) {
	t.Helper()
	want, wantE := m.inclusion(size, index)
	if got, e := single.Inclusion(x, size, index); !slices.Equal(got, want) || e != wantE {
		t.Errorf("S1: of %d leaves: Inclusion(%d, %d): %x, %d, want %x, %d", m.size(), size, index, got, e, want, wantE)
	}
}

func isConsistency(t *testing.T, x *tile.Tree, m model, first, second int) {
	t.Helper()
	want, wantE := m.consistency(first, second)
	if got, e := single.Consistency(x, first, second); !slices.Equal(got, want) || e != wantE {
		t.Errorf("S2: of %d leaves: Consistency(%d, %d): %x, %d, want %x, %d", m.size(), first, second, got, e, want, wantE)
	}
}

// isAll holds both calls to the model at all numbers within a tree and about its edges.
func isAll(t *testing.T, x *tile.Tree, m model) {
	t.Helper()
	for size := -2; size <= m.size()+2; size++ {
		for other := -2; other <= m.size()+3; other++ {
			isInclusion(t, x, m, size, other)
			isConsistency(t, x, m, other, size)
		}
	}
}

// odd are numbers that no place within a tree has: below nought, at the ends, about the powers of two.
func odd() []int {
	l := []int{math.MinInt, math.MinInt + 1, -3, -2, -1, math.MaxInt - 1, math.MaxInt}
	for i := 21; i < 63; i++ {
		l = append(l, 1<<i-1, 1<<i, 1<<i+1, -(1 << i))
	}
	return l
}
