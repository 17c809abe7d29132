package batch_test

import (
	"crypto/sha256"
	"math"
	"math/rand"
	"slices"
	"strconv"
	"testing"

	"scrivener/api"
	"scrivener/batch"
	"scrivener/tile"
)

// The model takes the words as they stand: it goes down through subtrees by a recursion, and knows of leaves, told subtrees and nodes alone.

func hashOf(text string) string {
	h := sha256.Sum256([]byte(text))
	return string(h[:])
}

func node(left, right string) string { return hashOf("\x01" + left + right) }

// some are n hashes, unlike those of another kind.
func some(n int, kind string) []string {
	l := make([]string, n)
	for i := range l {
		l[i] = hashOf(kind + " " + strconv.Itoa(i))
	}
	return l
}

func at(b, e int) api.Span { return api.Span{Begin: b, End: e} }

// half is the greatest power of two below n.
func half(n int) int {
	k := 1
	for 2*k < n {
		k *= 2
	}
	return k
}

// parts are the left and the right one.
func parts(s api.Span) (api.Span, api.Span) {
	middle := s.Begin + half(s.End-s.Begin)
	return at(s.Begin, middle), at(middle, s.End)
}

// model has the leaves of a tree, and above them, level by level, the nodes of neighbours, so that a great tree's spans are told soon.
type model struct{ levels [][]string }

func modelOf(leaves []string) model {
	levels := [][]string{leaves}
	for len(leaves) > 1 {
		above := make([]string, len(leaves)/2)
		for i := range above {
			above[i] = node(leaves[2*i], leaves[2*i+1])
		}
		levels, leaves = append(levels, above), above
	}
	return model{levels}
}

func (m model) size() int { return len(m.levels[0]) }

func (m model) hash(s api.Span) string {
	n := s.End - s.Begin
	for level, row := range m.levels {
		if n == 1<<level && s.Begin%n == 0 {
			return row[s.Begin/n]
		}
	}
	left, right := parts(s)
	return node(m.hash(left), m.hash(right))
}

func (m model) leaves(indices []int) []string {
	var l []string
	for _, i := range indices {
		l = append(l, m.levels[0][i])
	}
	return l
}

// areRight are indices of a size.
func areRight(size int, indices []int) bool {
	if len(indices) < 1 || len(indices) > 256 {
		return false
	}
	for i, n := range indices {
		if n < 0 || n >= size || i > 0 && n <= indices[i-1] {
			return false
		}
	}
	return true
}

// toldIn are the told subtrees within one: itself, if none of the leaves is in it.
func toldIn(s api.Span, indices []int) []api.Span {
	in := slices.ContainsFunc(indices, func(i int) bool { return s.Begin <= i && i < s.End })
	switch {
	case !in:
		return []api.Span{s}
	case s.End-s.Begin == 1:
		return nil
	}
	left, right := parts(s)
	return append(toldIn(left, indices), toldIn(right, indices)...)
}

func slowCount(size int, indices []int) (int, api.Errno) {
	switch {
	case size < 1 || size > 1<<40:
		return 0, api.ErrBatchSize
	case !areRight(size, indices):
		return 0, api.ErrBatchIndices
	}
	return len(toldIn(at(0, size), indices)), api.OK
}

func (m model) prove(size int, indices []int) (api.Batch, api.Errno) {
	switch {
	case size < 1 || size > m.size():
		return api.Batch{}, api.ErrBatchSize
	case !areRight(size, indices):
		return api.Batch{}, api.ErrBatchIndices
	}
	b := api.Batch{Size: size, Indices: indices}
	for _, s := range toldIn(at(0, size), indices) {
		b.Hashes = append(b.Hashes, m.hash(s))
	}
	return b, api.OK
}

// said is a batch and leaves, by which each subtree is told or worked out.
type said struct {
	b      api.Batch
	leaves []string
	told   []api.Span
}

// saidBy tells what is wrong with them, too.
func saidBy(b api.Batch, leaves []string) (said, api.Errno) {
	if _, e := slowCount(b.Size, b.Indices); e != api.OK {
		return said{}, e
	}
	s := said{b, leaves, toldIn(at(0, b.Size), b.Indices)}
	if len(b.Hashes) != len(s.told) || len(leaves) != len(b.Indices) {
		return said{}, api.ErrBatchForm
	}
	for _, h := range append(slices.Clone(b.Hashes), leaves...) {
		if len(h) != 32 {
			return said{}, api.ErrBatchForm
		}
	}
	return s, api.OK
}

func (x said) hash(s api.Span) string {
	if i := slices.Index(x.told, s); i >= 0 {
		return x.b.Hashes[i]
	}
	if s.End-s.Begin == 1 {
		return x.leaves[slices.Index(x.b.Indices, s.Begin)]
	}
	left, right := parts(s)
	return node(x.hash(left), x.hash(right))
}

// path is that of a leaf within a subtree that has it.
func (x said) path(s api.Span, leaf int) []string {
	if s.End-s.Begin == 1 {
		return nil
	}
	left, right := parts(s)
	if leaf < left.End {
		return append(x.path(left, leaf), x.hash(right))
	}
	return append(x.path(right, leaf), x.hash(left))
}

func (x said) paths() [][]string {
	var l [][]string
	for _, i := range x.b.Indices {
		l = append(l, x.path(at(0, x.b.Size), i))
	}
	return l
}

func samePaths(a, b [][]string) bool { return slices.EqualFunc(a, b, slices.Equal) }

func sameBatch(a, b api.Batch) bool {
	return a.Size == b.Size && slices.Equal(a.Indices, b.Indices) && slices.Equal(a.Hashes, b.Hashes)
}

// grown is a tree of tiles with some leaves.
func grown(t *testing.T, height int, leaves []string) *tile.Tree {
	t.Helper()
	x, e := tile.New(height)
	if x == nil || e != api.OK {
		t.Fatalf("layer 7: New(%d): %d", height, e)
	}
	adds(t, x, leaves)
	return x
}

func adds(t *testing.T, x *tile.Tree, leaves []string) {
	t.Helper()
	for i, leaf := range leaves {
		if e := x.Add(leaf); e != api.OK {
			t.Fatalf("layer 7: Add of leaf %d: %d", i, e)
		}
	}
}

func isCount(t *testing.T, size int, indices []int) {
	t.Helper()
	want, wantE := slowCount(size, indices)
	if n, e := batch.Count(size, indices); n != want || e != wantE {
		t.Errorf("B1: Count(%d, %v): %d, %d, want %d, %d", size, indices, n, e, want, wantE)
	}
}

// isProve tells the batch, too.
func isProve(t *testing.T, x *tile.Tree, m model, size int, indices []int) api.Batch {
	t.Helper()
	want, wantE := m.prove(size, indices)
	b, e := batch.Prove(x, size, indices)
	if !sameBatch(b, want) || e != wantE {
		t.Errorf("B2: of %d leaves: Prove(%d, %v): %x, %d, want %x, %d", m.size(), size, indices, b, e, want, wantE)
	}
	return b
}

// isSaid holds Root, Check and Expand to the words, of anything.
func isSaid(t *testing.T, b api.Batch, leaves []string) {
	t.Helper()
	x, wantE := saidBy(b, leaves)
	var root string
	var paths [][]string
	if wantE == api.OK {
		root, paths = x.hash(at(0, b.Size)), x.paths()
	}
	if got, e := batch.Root(b, leaves); got != root || e != wantE {
		t.Errorf("B3: Root(%x, %x): %x, %d, want %x, %d", b, leaves, got, e, root, wantE)
	}
	if got, e := batch.Expand(b, leaves); !samePaths(got, paths) || e != wantE {
		t.Errorf("B4: Expand(%x, %x): %x, %d, want %x, %d", b, leaves, got, e, paths, wantE)
	}
	if e := batch.Check(b, leaves, root); e != wantE {
		t.Errorf("B3: Check(%x, %x) of its root: %d, want %d", b, leaves, e, wantE)
	}
	other := api.ErrBatchRoot
	if wantE != api.OK {
		other = wantE
	}
	if e := batch.Check(b, leaves, hashOf(root)); e != other {
		t.Errorf("B3: Check(%x, %x) of another root: %d, want %d", b, leaves, e, other)
	}
}

// sets are all lists of numbers below n that rise, but the empty one.
func sets(n int) [][]int {
	var all [][]int
	for set := 1; set < 1<<n; set++ {
		var l []int
		for i := range n {
			if set>>i&1 == 1 {
				l = append(l, i)
			}
		}
		all = append(all, l)
	}
	return all
}

// upTo are the numbers below n.
func upTo(n int) []int {
	l := make([]int, n)
	for i := range l {
		l[i] = i
	}
	return l
}

// someOf are k numbers below n that rise (fewer, if there are not so many), now all over, now crowded.
func someOf(r *rand.Rand, n, k int) []int {
	from, width := 0, n
	if r.Intn(2) == 0 {
		width = min(n, k+r.Intn(3*k))
		from = r.Intn(n - width + 1)
	}
	in := map[int]int{}
	for len(in) < min(k, width) {
		in[from+r.Intn(width)] = 1
	}
	var l []int
	for i := range in {
		l = append(l, i)
	}
	slices.Sort(l)
	return l
}

// greatSizes are about the powers of two, up to the greatest one.
func greatSizes(r *rand.Rand) []int {
	var sizes []int
	for i := 4; i <= 40; i++ {
		sizes = append(sizes, 1<<i-1, 1<<i)
		if i < 40 {
			sizes = append(sizes, 1<<i+1, 1<<i+r.Intn(1<<i))
		}
	}
	return append(sizes, 1<<40-2, 1<<39+1<<20)
}

// odd are numbers that no size has: nought and below, above the greatest, at the ends.
func odd() []int {
	l := []int{math.MinInt, math.MinInt + 1, -3, -2, -1, 0, math.MaxInt - 1, math.MaxInt}
	for i := 40; i < 63; i++ {
		l = append(l, 1<<i+1, 1<<i+1<<20, -(1 << i))
	}
	return l
}

// wrongFor are lists of indices that are not right for a size of 3 to 250: none, falling, the same twice, below 0, beyond, too many.
func wrongFor(size int) [][]int {
	return [][]int{
		nil, {}, {size}, {-1}, {0, size}, {-1, 0}, {1, 0}, {2, 2}, {0, 0}, {0, 2, 1}, {0, 1, 1}, {size - 1, 0},
		{math.MaxInt}, {math.MinInt}, {math.MinInt, 0, 1}, {0, math.MaxInt}, {0, 1, size, 2}, {size, size + 1}, {-2, -1},
		upTo(257), upTo(size + 1), slices.Repeat([]int{0}, 300), slices.Repeat([]int{1}, 2),
	}
}
