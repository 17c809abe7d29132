package batch_test

import (
	"math"
	"math/rand"
	"slices"
	"strconv"
	"strings"
	"sync"
	"testing"

	"scrivener/api"
	"scrivener/batch"
	"scrivener/tile"
)

func refused(t *testing.T, what string, b api.Batch, e, want api.Errno) {
	t.Helper()
	if e != want || b.Size != 0 || len(b.Indices) != 0 || len(b.Hashes) != 0 {
		t.Errorf("%s: %x, %d, want the error %d and nothing else", what, b, e, want)
	}
}

// fail holds the three calls that read a batch to an error.
func fail(t *testing.T, what string, b api.Batch, leaves []string, want api.Errno) {
	t.Helper()
	if root, e := batch.Root(b, leaves); root != "" || e != want {
		t.Errorf("B3: %s: Root: %x, %d, want the error %d", what, root, e, want)
	}
	if paths, e := batch.Expand(b, leaves); len(paths) != 0 || e != want {
		t.Errorf("B4: %s: Expand: %x, %d, want the error %d", what, paths, e, want)
	}
	for _, root := range []string{"", hashOf("root"), "short"} {
		if e := batch.Check(b, leaves, root); e != want {
			t.Errorf("B3: %s: Check: %d, want the error %d", what, e, want)
		}
	}
}

func TestExampleOfTwo(t *testing.T) {
	l := some(5, "leaf")
	x := grown(t, 2, l)
	cd := node(l[2], l[3])
	b, e := batch.Prove(x, 5, []int{0, 4})
	if e != api.OK || !sameBatch(b, api.Batch{Size: 5, Indices: []int{0, 4}, Hashes: []string{l[1], cd}}) {
		t.Errorf("B2: Prove(5, 0 4): %x, %d", b, e)
	}
	if n, e := batch.Count(5, []int{0, 4}); n != 2 || e != api.OK {
		t.Errorf("B1: Count(5, 0 4): %d, %d", n, e)
	}
	two := []string{l[0], l[4]}
	top := node(node(l[0], l[1]), cd)
	root, e := batch.Root(b, two)
	if is, _ := x.Root(5); root != is || root != node(top, l[4]) || e != api.OK {
		t.Errorf("B3: Root: %x, %d", root, e)
	}
	paths, e := batch.Expand(b, two)
	if !samePaths(paths, [][]string{{l[1], cd, l[4]}, {top}}) || e != api.OK {
		t.Errorf("B4: Expand: %x, %d", paths, e)
	}
	if e := batch.Check(b, two, root); e != api.OK {
		t.Errorf("B3: Check: %d", e)
	}
	fail(t, "of one leaf", b, two[:1], api.ErrBatchForm)
}

func TestExampleOfAllAndOfNone(t *testing.T) {
	l := some(5, "leaf")
	x := grown(t, 2, l)
	b, e := batch.Prove(x, 5, []int{0, 1, 2, 3, 4})
	if e != api.OK || !sameBatch(b, api.Batch{Size: 5, Indices: upTo(5)}) {
		t.Errorf("B2: Prove of all: %x, %d", b, e)
	}
	isSaid(t, b, l)
	b, e = batch.Prove(x, 6, []int{0})
	refused(t, "B2: Prove(6, 0)", b, e, api.ErrBatchSize)
	for _, indices := range [][]int{{1, 0}, nil, {}, {5}} {
		b, e := batch.Prove(x, 5, indices)
		refused(t, "B2: Prove(5, ..)", b, e, api.ErrBatchIndices)
	}
}

// All sets of leaves of all small sizes, also of a tree that has grown on since.
func TestAllSets(t *testing.T) {
	l := some(13, "leaf")
	m := modelOf(l)
	for height := 1; height <= 8; height++ {
		x := grown(t, height, l)
		for n := 1; n <= 10; n++ {
			for _, indices := range sets(n) {
				b := isProve(t, x, m, n, indices)
				if height == 1 {
					isCount(t, n, indices)
					isSaid(t, b, m.leaves(indices))
				}
			}
		}
		if testing.Short() {
			break
		}
	}
}

// The told subtrees by their words: all subtrees that have none of the leaves, without those that are part of such a one.
func TestToldByWords(t *testing.T) {
	var subtrees func(s api.Span) []api.Span
	subtrees = func(s api.Span) []api.Span {
		if s.End-s.Begin == 1 {
			return []api.Span{s}
		}
		left, right := parts(s)
		return slices.Concat([]api.Span{s}, subtrees(left), subtrees(right))
	}
	l := some(9, "leaf")
	x, m := grown(t, 3, l), modelOf(l)
	for n := 1; n <= len(l); n++ {
		for _, indices := range sets(n) {
			bare := slices.DeleteFunc(subtrees(at(0, n)), func(s api.Span) bool {
				return slices.ContainsFunc(indices, func(i int) bool { return s.Begin <= i && i < s.End })
			})
			told := slices.DeleteFunc(slices.Clone(bare), func(s api.Span) bool {
				return slices.ContainsFunc(bare, func(o api.Span) bool { return o != s && o.Begin <= s.Begin && s.End <= o.End })
			})
			slices.SortFunc(told, func(a, b api.Span) int { return a.Begin - b.Begin })
			var want []string
			for _, s := range told {
				want = append(want, m.hash(s))
			}
			b, e := batch.Prove(x, n, indices)
			if !slices.Equal(b.Hashes, want) || e != api.OK {
				t.Errorf("B2: Prove(%d, %v): not the hashes of %v: %d", n, indices, told, e)
			}
			if k, e := batch.Count(n, indices); k != len(told) || e != api.OK {
				t.Errorf("B1: Count(%d, %v): %d, %d, want %d", n, indices, k, e, len(told))
			}
		}
	}
}

// Leaf by leaf, so that a tree is asked while its tiles are half full.
func TestWhileItGrows(t *testing.T) {
	r := rand.New(rand.NewSource(1))
	l := some(70, "leaf")
	for height := 1; height <= 8; height++ {
		x := grown(t, height, nil)
		for n := 1; n <= len(l); n++ {
			adds(t, x, l[n-1:n])
			m := modelOf(l[:n])
			for _, k := range []int{1, 2, n/2 + 1, n} {
				size := 1 + r.Intn(n)
				indices := someOf(r, size, k)
				isSaid(t, isProve(t, x, m, size, indices), m.leaves(indices))
			}
			isProve(t, x, m, n, upTo(n))
			isProve(t, x, m, n, []int{n - 1})
			isProve(t, x, m, n+1, []int{0})
			isProve(t, x, m, n+1, []int{n})
			isProve(t, x, m, n, []int{n})
		}
	}
}

func TestCountOfGreatSizes(t *testing.T) {
	r := rand.New(rand.NewSource(2))
	for _, n := range greatSizes(r) {
		for _, indices := range [][]int{{0}, {n - 1}, {n / 2}, {half(n)}, {half(n) - 1}, {0, n - 1}, {half(n) - 1, half(n)}, upTo(min(n, 256)), {n}, {-1}, {0, n}, upTo(257)} {
			isCount(t, n, indices)
		}
		for _, k := range []int{1, 2, 3, 17, 255, 256} {
			isCount(t, n, someOf(r, n, k))
		}
	}
	for _, c := range []struct {
		size    int
		indices []int
		want    int
	}{
		{1, []int{0}, 0}, {2, []int{1}, 1}, {1 << 40, []int{0}, 40}, {1 << 40, []int{1<<40 - 1}, 40}, {1 << 40, []int{0, 1<<40 - 1}, 78},
		{1<<40 - 1, []int{1<<40 - 2}, 39}, {1<<39 + 1, []int{1 << 39}, 1}, {256, upTo(256), 0}, {257, upTo(256), 1}, {1 << 40, upTo(256), 32},
	} {
		if n, e := batch.Count(c.size, c.indices); n != c.want || e != api.OK {
			t.Errorf("B1: Count(%d) of %d indices: %d, %d, want %d", c.size, len(c.indices), n, e, c.want)
		}
	}
}

// Where nothing is kept, any hashes and any leaves lead to a root.
func TestAnyHashesOfGreatSizes(t *testing.T) {
	r := rand.New(rand.NewSource(3))
	for i, n := range greatSizes(r) {
		for _, k := range []int{1, 2, 5, 40} {
			indices := someOf(r, n, k)
			count, _ := batch.Count(n, indices)
			isSaid(t, api.Batch{Size: n, Indices: indices, Hashes: some(count, "told "+strconv.Itoa(i))}, some(len(indices), "leaf"))
		}
	}
}

// apart are as many leaves as there may be, far apart: of a size that is a power of two, no others have so many told subtrees.
func apart(n int) []int {
	l := make([]int, 256)
	for i := range l {
		l[i] = i * (n / 256)
	}
	return l
}

func TestMostIndices(t *testing.T) {
	for _, n := range []int{256, 257, 300, 511, 512, 1 << 20, 1<<40 - 1, 1 << 40} {
		for _, indices := range [][]int{upTo(256), apart(n)} {
			count, e := batch.Count(n, indices)
			if e != api.OK {
				t.Fatalf("B1: Count(%d) of 256 indices: %d", n, e)
			}
			b := api.Batch{Size: n, Indices: indices, Hashes: some(count, "told")}
			leaves := some(256, "leaf")
			x, _ := saidBy(b, leaves)
			root := x.hash(at(0, n))
			if got, e := batch.Root(b, leaves); got != root || e != api.OK {
				t.Errorf("B3: Root of 256 leaves of %d: %x, %d, want %x", n, got, e, root)
			}
			paths, e := batch.Expand(b, leaves)
			if len(paths) != 256 || e != api.OK {
				t.Fatalf("B4: Expand of 256 leaves of %d: %d paths, %d", n, len(paths), e)
			}
			for _, i := range []int{0, 1, 127, 128, 255} {
				if !slices.Equal(paths[i], x.path(at(0, n), indices[i])) {
					t.Errorf("B4: Expand of 256 leaves of %d: not the path of leaf %d", n, indices[i])
				}
			}
		}
	}
	if n, _ := batch.Count(1<<40, apart(1<<40)); n != 256*32 {
		t.Errorf("B1: Count of 256 leaves far apart: %d", n)
	}
}

func TestWrongSizes(t *testing.T) {
	l := some(9, "leaf")
	x := grown(t, 2, l)
	for _, size := range odd() {
		for _, indices := range append(wrongFor(9), []int{0}, []int{0, 8}) {
			if n, e := batch.Count(size, indices); n != 0 || e != api.ErrBatchSize {
				t.Errorf("B1: Count(%d, %v): %d, %d", size, indices, n, e)
			}
			b, e := batch.Prove(x, size, indices)
			refused(t, "B2: a wrong size", b, e, api.ErrBatchSize)
			fail(t, "a wrong size", api.Batch{Size: size, Indices: indices}, l[:len(indices)%9], api.ErrBatchSize)
			fail(t, "a wrong size and hashes", api.Batch{Size: size, Indices: indices, Hashes: []string{"", "x"}}, nil, api.ErrBatchSize)
		}
	}
	// A size that is there, where nothing is kept, but not in the tree.
	for _, size := range []int{10, 11, 16, 1 << 20, 1<<20 + 1, 1 << 40} {
		for _, indices := range append(wrongFor(9), []int{0}, []int{9}) {
			b, e := batch.Prove(x, size, indices)
			refused(t, "B2: beyond the tree", b, e, api.ErrBatchSize)
		}
	}
}

func TestWrongIndices(t *testing.T) {
	l := some(250, "leaf")
	x := grown(t, 3, l)
	for _, size := range []int{3, 4, 5, 8, 100, 249, 250} {
		for _, indices := range wrongFor(size) {
			if n, e := batch.Count(size, indices); n != 0 || e != api.ErrBatchIndices {
				t.Errorf("B1: Count(%d, %v): %d, %d", size, indices, n, e)
			}
			b, e := batch.Prove(x, size, indices)
			refused(t, "B2: wrong indices", b, e, api.ErrBatchIndices)
			for _, hashes := range [][]string{nil, l[:1], l[:2], {""}, {"x", l[0]}} {
				fail(t, "wrong indices", api.Batch{Size: size, Indices: indices, Hashes: hashes}, l[:min(250, len(indices))], api.ErrBatchIndices)
				fail(t, "wrong indices", api.Batch{Size: size, Indices: indices, Hashes: hashes}, nil, api.ErrBatchIndices)
			}
		}
	}
}

// Where a size has as many leaves, 257 are too many, though they rise and are there.
func TestTooManyIndices(t *testing.T) {
	for _, n := range []int{257, 258, 1000, 1 << 40} {
		for k := 255; k <= 258; k++ {
			isCount(t, n, upTo(min(n, k)))
		}
		fail(t, "257 indices", api.Batch{Size: n, Indices: upTo(257)}, some(257, "leaf"), api.ErrBatchIndices)
	}
	l := some(300, "leaf")
	x, m := grown(t, 8, l), modelOf(l)
	for k := 255; k <= 300; k += 15 {
		isProve(t, x, m, 300, upTo(k))
	}
	isProve(t, x, m, 300, upTo(256))
	isProve(t, x, m, 300, upTo(257))
}

// wrongHashes are texts that are no hashes.
func wrongHashes() []string {
	return []string{"", "x", strings.Repeat("x", 31), strings.Repeat("x", 33), strings.Repeat("x", 64), strings.Repeat("é", 32)}
}

func TestWrongForms(t *testing.T) {
	l := some(11, "leaf")
	x, m := grown(t, 2, l), modelOf(l)
	for n := 1; n <= len(l); n++ {
		for _, indices := range [][]int{{0}, {n - 1}, {n / 2}, upTo(n), upTo((n + 1) / 2)} {
			b, leaves := isProve(t, x, m, n, indices), m.leaves(indices)
			isSaid(t, b, leaves)
			with := func(hashes []string) api.Batch { return api.Batch{Size: n, Indices: indices, Hashes: hashes} }
			fail(t, "a hash more", with(append(slices.Clone(b.Hashes), l[0])), leaves, api.ErrBatchForm)
			fail(t, "a leaf more", b, append(slices.Clone(leaves), l[0]), api.ErrBatchForm)
			fail(t, "many more", with(some(5000, "told")), some(5000, "leaf"), api.ErrBatchForm)
			fail(t, "a leaf less", b, leaves[1:], api.ErrBatchForm)
			fail(t, "no leaves", b, nil, api.ErrBatchForm)
			if len(b.Hashes) > 0 {
				fail(t, "a hash less", with(b.Hashes[1:]), leaves, api.ErrBatchForm)
				fail(t, "no hashes", with(nil), leaves, api.ErrBatchForm)
				fail(t, "a hash as a leaf", with(b.Hashes[1:]), append(slices.Clone(leaves), b.Hashes[0]), api.ErrBatchForm)
			}
			for _, wrong := range wrongHashes() {
				for i := range b.Hashes {
					hashes := slices.Clone(b.Hashes)
					hashes[i] = wrong
					fail(t, "no hash among those told", with(hashes), leaves, api.ErrBatchForm)
				}
				for i := range leaves {
					others := slices.Clone(leaves)
					others[i] = wrong
					fail(t, "no hash among the leaves", b, others, api.ErrBatchForm)
				}
			}
		}
	}
	fail(t, "nothing", api.Batch{}, nil, api.ErrBatchSize)
}

// Anything that is handed in as a batch and leaves, right or not.
func TestAnything(t *testing.T) {
	r := rand.New(rand.NewSource(4))
	hashes := append(some(20, "any"), wrongHashes()...)
	pick := func(n int) []string {
		var l []string
		for range n {
			// Mostly hashes, so that some are right.
			l = append(l, hashes[r.Intn(20)])
			if r.Intn(40) == 0 {
				l[len(l)-1] = hashes[r.Intn(len(hashes))]
			}
		}
		return l
	}
	right := 0
	for range 20000 {
		size := r.Intn(20) - 1
		var indices []int
		for i := -1; i <= size; i++ {
			if r.Intn(3) == 0 && (i >= 0 && i < size || r.Intn(8) == 0) {
				indices = append(indices, i)
			}
		}
		if len(indices) > 1 && r.Intn(10) == 0 {
			indices[0] = indices[len(indices)-1]
		}
		count, _ := slowCount(size, indices)
		b := api.Batch{Size: size, Indices: indices, Hashes: pick(max(0, count+(r.Intn(9)-4)/4))}
		leaves := pick(max(0, len(indices)+(r.Intn(9)-4)/4))
		isSaid(t, b, leaves)
		if _, e := saidBy(b, leaves); e == api.OK {
			right++
		}
	}
	if right < 2000 || right > 18000 {
		t.Errorf("only one kind was met: %d of 20000 are right", right)
	}
}

func TestOtherRoots(t *testing.T) {
	l := some(7, "leaf")
	x, m := grown(t, 2, l), modelOf(l)
	for n := 1; n <= len(l); n++ {
		b := isProve(t, x, m, n, []int{0})
		root := m.hash(at(0, n))
		others := append(wrongHashes(), root+"x", root[:31], "\x00"+root, hashOf(""), l[1], strings.Repeat("\x00", 32))
		for i := range root {
			others = append(others, root[:i]+string([]byte{root[i] ^ 1})+root[i+1:])
		}
		for _, other := range others {
			if e := batch.Check(b, l[:1], other); e != api.ErrBatchRoot {
				t.Errorf("B3: Check(%d) of the root %x: %d", n, other, e)
			}
		}
		for size := 1; size <= len(l); size++ {
			want := api.ErrBatchRoot
			if size == n {
				want = api.OK
			}
			if e := batch.Check(b, l[:1], m.hash(at(0, size))); e != want {
				t.Errorf("B3: Check(%d) of the root of %d: %d", n, size, e)
			}
		}
	}
}

// Leaves and hashes are 32 bytes of any kind: all the same, or such as are nodes of the tree.
func TestSameHashes(t *testing.T) {
	one := some(1, "leaf")
	l := slices.Repeat(one, 9)
	x, m := grown(t, 1, l), modelOf(l)
	for n := 1; n <= 9; n++ {
		for _, indices := range sets(n) {
			isSaid(t, isProve(t, x, m, n, indices), m.leaves(indices))
			count, _ := slowCount(n, indices)
			isSaid(t, api.Batch{Size: n, Indices: indices, Hashes: slices.Repeat(one, count)}, m.leaves(indices))
		}
	}
	l = some(4, "leaf")
	l = append(l, node(l[0], l[1]), node(l[2], l[3]), strings.Repeat("\x00", 32), hashOf(""))
	x, m = grown(t, 2, l), modelOf(l)
	for _, indices := range sets(len(l)) {
		isSaid(t, isProve(t, x, m, len(l), indices), m.leaves(indices))
	}
}

// Where layer 7 made no tree, there are no leaves.
func TestNoTree(t *testing.T) {
	none, _ := tile.New(0)
	for _, x := range []*tile.Tree{nil, none, none.Clone(), grown(t, 1, nil)} {
		for _, size := range append(odd(), 1, 2, 1<<20, 1<<40) {
			for _, indices := range [][]int{nil, {0}, {1, 0}, {math.MaxInt}} {
				b, e := batch.Prove(x, size, indices)
				refused(t, "B2: of no leaves", b, e, api.ErrBatchSize)
			}
		}
	}
}

// full is a tree of as many leaves as there may be, with its model.
var full = sync.OnceValue(func() (all struct {
	tree  *tile.Tree
	model model
}) {
	l := some(api.MaxLeaves, "leaf")
	all.tree, _ = tile.New(8)
	for _, leaf := range l {
		all.tree.Add(leaf)
	}
	all.model = modelOf(l)
	return all
})

func TestFullTree(t *testing.T) {
	if testing.Short() {
		t.Skip("it has 1048576 leaves")
	}
	r := rand.New(rand.NewSource(5))
	x, m := full().tree, full().model
	for _, size := range []int{1, 255, 256, 257, 65537, 1<<19 - 1, 1 << 19, 1<<19 + 1, 700001, 1<<20 - 1, 1 << 20} {
		for _, indices := range [][]int{{0}, {size - 1}, {0, size - 1}, someOf(r, size, 7), someOf(r, size, 100), {size}} {
			indices = slices.Compact(indices)
			b := isProve(t, x, m, size, indices)
			if b.Size > 0 {
				isSaid(t, b, m.leaves(indices))
			}
		}
		isProve(t, x, m, size, upTo(min(size, 256)))
		isProve(t, x, m, size, someOf(r, size, 256))
	}
	for _, size := range []int{1<<20 + 1, 1 << 21, 1 << 40} {
		isProve(t, x, m, size, []int{0})
	}
}
